/-
  The document's own answer (rickref01): Sum is the name of the bytes, as plain mathematics tells it.
-/
import Derived.Test.YtjnhgoedhggocaaDoorDigD
import Derived.Test.YtjnhgoedhggocaaDoorRefA
namespace Go.Proofs.YtjnhgoedhggocaaDoor
open Go.RowKit

theorem run_loadAt_row {P : Program} (w : World) (g : Nat) (t ty : TypeId) (cs : Array Value) (fr : Nat × Nat) (d : TypeDesc) (hg : w.heap[g]? = some (.cells cs t fr))
    (hu : P.underlying ty = some d) (hd : (match d with | .struct _ | .array _ _ => true | _ => false) = true) (hi : (P.info? ty).map (·.size) = some cs.size) : (Instr.loadAt ty (.pointer (some ⟨g, 0, none⟩))).run P w = .ok (.agg cs) w := by
  simp only [Instr.loadAt, Instr.sureAddr, Sem.run_bind, Sem.run_pure, Result.andThen_ok, run_loadVar_row w g t ty cs fr d hg hu hd hi]
theorem run_storeAt_row {P : Program} (w : World) (g : Nat) (t ty : TypeId) (old cells : Array Value) (hg : w.heap[g]? = some (.cells old t (0, 0))) (hi : (P.info? ty).map (·.size) = some cells.size)
    (ho : old.size = cells.size) (h1 : cells.all (·.oneCell') = true) : (Instr.storeAt ty (.pointer (some ⟨g, 0, none⟩)) (.agg cells)).run P w = .ok () (w.setRow g cells) := by
  simp only [Instr.storeAt, Instr.sureAddr, Sem.run_bind, Sem.run_pure, Result.andThen_ok, run_storeVar_row w g t ty old cells hg hi ho h1]

theorem far8 (w : World) (b j : Nat) (v0 v1 v2 v3 v4 v5 v6 v7 : Value) (h : ¬ j = b) : ((((((((w.setCell ⟨b, 0, none⟩ v0).setCell ⟨b, 1, none⟩ v1).setCell ⟨b, 2, none⟩ v2).setCell ⟨b, 3, none⟩ v3).setCell ⟨b, 4, none⟩ v4).setCell ⟨b, 5, none⟩ v5).setCell ⟨b, 6, none⟩ v6).setCell ⟨b, 7, none⟩ v7).heap[j]? = w.heap[j]? := by
  have f : ∀ (wx : World) i v, (wx.setCell ⟨b, i, none⟩ v).heap[j]? = wx.heap[j]? := fun wx i v => Below.heap_setCell wx ⟨b, i, none⟩ v j h
  simp only [f]
theorem below8 {B : Nat} {w0 w : World} (hb : Below B w0 w) (b : Nat) (v0 v1 v2 v3 v4 v5 v6 v7 : Value) (h : B ≤ b) : Below B w0 ((((((((w.setCell ⟨b, 0, none⟩ v0).setCell ⟨b, 1, none⟩ v1).setCell ⟨b, 2, none⟩ v2).setCell ⟨b, 3, none⟩ v3).setCell ⟨b, 4, none⟩ v4).setCell ⟨b, 5, none⟩ v5).setCell ⟨b, 6, none⟩ v6).setCell ⟨b, 7, none⟩ v7) := by
  have f : ∀ (wx : World) i v, Below B w0 wx → Below B w0 (wx.setCell ⟨b, i, none⟩ v) := fun wx i v hx => hx.setCell (p := ⟨b, i, none⟩) h v
  exact f _ _ _ (f _ _ _ (f _ _ _ (f _ _ _ (f _ _ _ (f _ _ _ (f _ _ _ (f _ _ _ hb)))))))
theorem row8 {w : World} {b : Nat} {s : Sha.St UInt32} {t : TypeId} (h : w.heap[b]? = some (.cells (s.list.map W32).toArray t (0, 0))) (n : Sha.St UInt32) : ((((((((w.setCell ⟨b, 0, none⟩ (.int .u32 (n.a.toNat : Int))).setCell ⟨b, 1, none⟩ (.int .u32 (n.b.toNat : Int))).setCell ⟨b, 2, none⟩ (.int .u32 (n.c.toNat : Int))).setCell ⟨b, 3, none⟩ (.int .u32 (n.d.toNat : Int))).setCell ⟨b, 4, none⟩ (.int .u32 (n.e.toNat : Int))).setCell ⟨b, 5, none⟩ (.int .u32 (n.f.toNat : Int))).setCell ⟨b, 6, none⟩ (.int .u32 (n.g.toNat : Int))).setCell ⟨b, 7, none⟩ (.int .u32 (n.h.toNat : Int))).heap[b]? = some (.cells (n.list.map W32).toArray t (0, 0)) :=
  blk32_set (blk32_set (blk32_set (blk32_set (blk32_set (blk32_set (blk32_set (blk32_set h 0 n.a) 1 n.b) 2 n.c) 3 n.d) 4 n.e) 5 n.f) 6 n.g) 7 n.h
theorem range_far {w : World} {b o : Nat} {cs : List Value} (h : w.rangeAt b o cs) (p : Addr) (v : Value) (hne : p.block ≠ b) : (w.setCell p v).rangeAt b o cs := fun j v' hv => (World.cell?_setCell_far w p ⟨b, o + j, none⟩ v hne).trans (h j v' hv)
theorem range_below {w w' : World} {b o : Nat} {l : List Value} (h : w.rangeAt b o l) (hk : Below w.heap.size w w') : w'.rangeAt b o l := fun j v hv => by
  have hc := h j v hv
  have hlt := World.block_lt_of_cell? _ _ hc
  rw [← hc]
  simp only [World.cell?, hk.block b hlt]
theorem range_whole {w : World} {b : Nat} {l : List Value} {t : TypeId} (h : w.heap[b]? = some (.cells l.toArray t (0, 0))) : w.rangeAt b 0 l := fun j v hv => by
  have := blk_cell (i := j) h (by simpa using hv)
  simpa using this
theorem range_far' {w : World} {b o : Nat} {cs : List Value} (h : w.rangeAt b o cs) (g i : Nat) (v : Value) (hne : g ≠ b) : (w.setCell ⟨g, i, none⟩ v).rangeAt b o cs := range_far h ⟨g, i, none⟩ v hne
theorem W8_lit (s : Sha.St UInt32) : (s.list.map W32).toArray = #[.int .u32 (s.a.toNat : Int), .int .u32 (s.b.toNat : Int), .int .u32 (s.c.toNat : Int), .int .u32 (s.d.toNat : Int), .int .u32 (s.e.toNat : Int), .int .u32 (s.f.toNat : Int), .int .u32 (s.g.toNat : Int), .int .u32 (s.h.toNat : Int)] := rfl

theorem sha_whole (l : List UInt8) : Sha.sha Sha.u32 (l.map Sha.inn) = Sha.blocks Sha.u32 ((l ++ tailB l.length l.length).length / 64) (Sha.begin Sha.u32) ((l ++ tailB l.length l.length).map Sha.inn) := by
  unfold Sha.sha
  rw [List.map_append, tail_inn _ _ rfl, List.length_map, List.length_append, tailB_length]
  congr 1
  unfold Sha.zeros
  omega
theorem whole_length (l : List UInt8) : ∃ m, (l ++ tailB l.length l.length).length = 64 * m := by
  rw [List.length_append, tailB_length]
  unfold Sha.zeros
  exact ⟨(l.length + ((119 - l.length % 64) % 64 + 9)) / 64, by omega⟩

theorem after8 {w wr w8 : World} {hB : Nat} {s : Sha.St UInt32} {t : TypeId} (n : Sha.St UInt32) (hrow : w8.heap[hB]? = some (.cells (s.list.map W32).toArray t (0, 0))) (hb8 : Below wr.heap.size wr.drew w8) (hbel : Below w.heap.size w wr) (hB0 : w.heap.size ≤ hB) :
    ∃ wz, ((((((((w8.setCell ⟨hB, 0, none⟩ (.int .u32 (n.a.toNat : Int))).setCell ⟨hB, 1, none⟩ (.int .u32 (n.b.toNat : Int))).setCell ⟨hB, 2, none⟩ (.int .u32 (n.c.toNat : Int))).setCell ⟨hB, 3, none⟩ (.int .u32 (n.d.toNat : Int))).setCell ⟨hB, 4, none⟩ (.int .u32 (n.e.toNat : Int))).setCell ⟨hB, 5, none⟩ (.int .u32 (n.f.toNat : Int))).setCell ⟨hB, 6, none⟩ (.int .u32 (n.g.toNat : Int))).setCell ⟨hB, 7, none⟩ (.int .u32 (n.h.toNat : Int))) = wz ∧
      wz.heap[hB]? = some (.cells (n.list.map W32).toArray t (0, 0)) ∧ (∀ q, q < wr.heap.size → ¬ q = hB → wz.heap[q]? = wr.heap[q]?) ∧ Below w.heap.size w wz := by
  refine ⟨_, rfl, row8 hrow n, fun q hq hn => (far8 w8 hB q _ _ _ _ _ _ _ _ hn).trans (hb8.block q hq), below8 (below_step hbel.drew hb8 hbel.size) hB _ _ _ _ _ _ _ _ hB0⟩

set_option maxRecDepth 100000 in
set_option maxHeartbeats 4000000 in
theorem RSum_any (v : Value) (bs : List UInt8) (hlen : bs.length ≤ 70368744177664) (w : World) (hv : Sl w v (Lib.byteCells bs)) :
    Calls Tryd.prog 22 #[v] w fun e w' => e = .returned (.agg (Lib.byteCells (Sha.sum bs)).toArray) ∧ Below w.heap.size w w' := by
  obtain ⟨i0, hi0, hi1, hi2, hi3⟩ := info_parts Tryd.info5
  have hbl := hid (Lib.byteCells_length bs)
  obtain ⟨ao, cap, hvf⟩ := hv.form
  subst hvf
  rw [hbl.out] at hv ⊢
  have g1 : 0 + (Lib.byteCells bs).length ≤ maxLen := by rw [hbl.out]; unfold maxLen; omega
  have g2 : (0 + (Lib.byteCells bs).length) * 1 ≤ 140737488355328 := by rw [hbl.out]; omega
  have g3 : 0 + (Lib.byteCells bs).length + 1 ≤ maxLen := by rw [hbl.out]; unfold maxLen; omega
  have g4 : (0 + (Lib.byteCells bs).length + 1) * 1 ≤ 140737488355328 := by rw [hbl.out]; omega
  go_enter Tryd.func22, Tryd.ntmps22
  go_wp2_with (first
    | (refine wpList_append_any _ rfl (.const (.slice none 0 0)) (.tmp 11) _ _ rfl (w.heap.size + 1) 5 i0 _ 1 1 Tryd.underlying22 hi0 hi1 hi2 hi3 rfl (by omega) (.slice none 0 0) 0 [] rfl (World.ownsRow_nil _ _ _ _) _ _ _ rfl ((hv.alloc _).src Tryd.underlying22 (byte_one _)) g1 g2 (by simp) ?_; intro v3 w3 hown3 hgrow3 hat3; have hb3 := ((Below.refl w.heap.size w).alloc (Nat.le_refl _) _).grown hgrow3 (by simp) (by simp [Value.ownBlock]); have hr3 := (hgrow3.block w.heap.size (by simp) (by simp [Value.ownBlock])).trans (heap_alloc_new w _))
    | (refine wpList_append_any _ rfl (.tmp 12) (.tmp 13) _ _ rfl (w.heap.size + 1) 5 i0 _ 1 1 Tryd.underlying22 hi0 hi1 hi2 hi3 rfl (by omega) _ _ _ rfl (hown3.alloc _) _ 1 [_] rfl (Src.ofSlice _ Tryd.underlying22 ⟨w3.heap.size, 0, none⟩ 1 1 [_] (by rfl) (World.news_of_block (cs := #[_]) (t := 5) (fr := (0, 0)) (heap_alloc_new w3 _)) (by simp [Value.oneCell'])) g3 g4 (by have := hb3.size; simp; omega) ?_; intro v4 w4 hown4 hgrow4 hat4))
  have hz3 := hb3.size
  have hz3' := hgrow3.size
  rw [World.size_alloc] at hz3'
  have hb4 : Below w.heap.size w w4 := (hb3.alloc hb3.size _).grown hgrow4 (by simp; omega) (fun j hj => Nat.le_of_succ_le (hown3.lt j hj).1)
  have hr4 := (hgrow4.block w.heap.size (by simp; omega) (fun h => by have := (hown3.lt _ h.symm).1; omega)).trans ((heap_alloc_old w3 _ (by omega)).trans hr3)
  have hr4z : w4.heap[w.heap.size]? = some (.cells (Lib.byteCells (List.replicate 32 0)).toArray 47 (0, 0)) := hr4
  rw [List.nil_append, Nat.zero_add, hbl.out] at hown4
  have hown5 : w4.ownsRow (w.heap.size + 1) 5 1 v4 (bs.length + 1 + 0) (Lib.byteCells (bs ++ 128 :: List.replicate 0 0)) := by
    rw [Lib.byteCells_append]
    exact hown4
  clear hown4 hgrow4 hat4 hb3 hown3 hgrow3 hat3 g1 g2 g3 g4 hv hr4 hr3 hz3 hz3'
  obtain ⟨Z, hZ⟩ : ∃ Z : List UInt8, Z = List.replicate 32 0 := ⟨_, rfl⟩
  rw [← hZ] at hr4z
  have HZ := hid hZ
  clear hZ
  obtain ⟨z, hz⟩ : ∃ z, z = Sha.zeros bs.length := ⟨_, rfl⟩
  have HZS := hid hz
  unfold Sha.zeros at hz
  go_loopw [3] (fun o wr => ∃ k : Nat, k ≤ z ∧ wr.ownsRow (w.heap.size + 1) 5 1 o (bs.length + 1 + k) (Lib.byteCells (bs ++ 128 :: List.replicate k 0)) ∧ wr.heap[w.heap.size]? = some (.cells (Lib.byteCells Z).toArray 47 (0, 0)) ∧ Below w.heap.size w wr) (fun o _ => bs.length + 128 - sliceLenV o)
  case atStart => exact ⟨0, by omega, hown5, hr4z, hb4⟩
  case round =>
    clear hown5 hr4z hb4
    obtain ⟨k, hk, hown, hr, hbel⟩ := hrel
    obtain ⟨ao', cap', rfl⟩ := owns_form hown
    by_cases hlt : k < z
    · have hcond : (((bs.length : Int) + 1 + (k : Int)) % 64 != 56) = true := by simp; omega
      have hsz := hbel.size
      have g3 : bs.length + 1 + k + 1 ≤ maxLen := by unfold maxLen; omega
      have g4 : (bs.length + 1 + k + 1) * 1 ≤ 140737488355328 := by omega
      go_wp2_with (refine wpList_append_any _ rfl (.tmp 19) (.tmp 20) _ _ rfl (w.heap.size + 1) 5 i0 _ 1 1 Tryd.underlying22 hi0 hi1 hi2 hi3 rfl (by omega) _ _ _ rfl (hown.alloc _) _ 1 [_] rfl (Src.ofSlice _ Tryd.underlying22 ⟨wr.heap.size, 0, none⟩ 1 1 [_] (by rfl) (World.news_of_block (cs := #[_]) (t := 5) (fr := (0, 0)) (heap_alloc_new wr _)) (by simp [Value.oneCell'])) g3 g4 (by have := lt_of_block hr; simp; omega) ?_; intro v5 w5 hown5 hgrow5 hat5)
      have hlr := lt_of_block hr
      have hb5 : Below w.heap.size w w5 := (hbel.alloc hsz _).grown hgrow5 (by simp; omega) (fun j hj => Nat.le_of_succ_le (hown.lt j hj).1)
      have hr5 := (hgrow5.block w.heap.size (by simp; omega) (fun h => by have := (hown.lt _ h.symm).1; omega)).trans ((heap_alloc_old wr _ (by omega)).trans hr)
      have R : w5.ownsRow (w.heap.size + 1) 5 1 v5 (bs.length + 1 + (k + 1)) (Lib.byteCells (bs ++ 128 :: List.replicate (k + 1) 0)) := by
        rw [List.replicate_succ', ← List.cons_append, ← List.append_assoc, Lib.byteCells_append]
        exact hown5
      clear hown5 hgrow5 hat5 hown hr
      obtain ⟨ao5, cap5, rfl⟩ := owns_form R
      go_roundw
      case rel => exact ⟨k + 1, by omega, R, hr5, hb5⟩
      case measure => simp [sliceLenV]; omega
    · obtain rfl : k = z := by omega
      have hcond : (((bs.length : Int) + 1 + (k : Int)) % 64 != 56) = false := by simp; omega
      have HZ2 := hid hz
      clear hz hlt hk
      have n1 : ((bs.length : Int) * 8) = ((8 * bs.length : Nat) : Int) := by omega
      have n2 : ((8 * bs.length : Nat) : Int) ≤ 18446744073709551615 := by omega
      go_wp2
      go_loopw [5, 3] (fun i o wx => ∃ q : Nat, q ≤ 8 ∧ i = .int .i64 (7 - (q : Int)) ∧ wx.ownsRow (w.heap.size + 1) 5 1 o (bs.length + 1 + k + q) (Lib.byteCells (bs ++ 128 :: List.replicate k 0 ++ be (8 * bs.length) q)) ∧ wx.heap[w.heap.size]? = some (.cells (Lib.byteCells Z).toArray 47 (0, 0)) ∧ Below w.heap.size w wx) (fun i _ _ => ((intOf i) + 1).toNat)
      case atStart => exact ⟨0, by omega, by simp, by simpa [be] using hown, hr, hbel⟩
      case round =>
        clear hown hbel hr
        obtain ⟨q, hq, rfl, hown, hr, hbel⟩ := hrel
        obtain ⟨ao6, cap6, rfl⟩ := owns_form hown
        have hk64 : k < 64 := by rw [HZ2.out]; omega
        by_cases hlt : q < 8
        · have h7 : (0 : Int) ≤ 8 * (7 - (q : Int)) := by omega
          have h8 : 8 * (7 - (q : Int)) ≤ 64 := by omega
          have h9 : (8 * (7 - (q : Int))).toNat = 8 * (7 - q) := by omega
          have hsz := hbel.size
          have g3 : bs.length + 1 + k + q + 1 ≤ maxLen := by unfold maxLen; omega
          have g4 : (bs.length + 1 + k + q + 1) * 1 ≤ 140737488355328 := by omega
          have i1 : (0 : Int) ≤ 7 - (q : Int) := by omega
          go_wp2_with (refine wpList_append_any _ rfl (.tmp 30) (.tmp 37) _ _ rfl (w.heap.size + 1) 5 i0 _ 1 1 Tryd.underlying22 hi0 hi1 hi2 hi3 rfl (by omega) _ _ _ rfl (hown.alloc _) _ 1 [_] rfl (Src.ofSlice _ Tryd.underlying22 ⟨wr.heap.size, 0, none⟩ 1 1 [_] (by rfl) (World.news_of_block (cs := #[_]) (t := 5) (fr := (0, 0)) (heap_alloc_new wr _)) (by simp [Value.oneCell'])) g3 g4 (by have := lt_of_block hr; simp; omega) ?_; intro v5 w5 hown5 hgrow5 hat5)
          have hlr := lt_of_block hr
          have hb5 : Below w.heap.size w w5 := (hbel.alloc hsz _).grown hgrow5 (by simp; omega) (fun j hj => Nat.le_of_succ_le (hown.lt j hj).1)
          have hr5 := (hgrow5.block w.heap.size (by simp; omega) (fun h => by have := (hown.lt _ h.symm).1; omega)).trans ((heap_alloc_old wr _ (by omega)).trans hr)
          have R : w5.ownsRow (w.heap.size + 1) 5 1 v5 (bs.length + 1 + k + (q + 1)) (Lib.byteCells (bs ++ 128 :: List.replicate k 0 ++ be (8 * bs.length) (q + 1))) := by
            rw [be_succ, ← List.append_assoc, Lib.byteCells_append]
            have e := byte_div (8 * bs.length) (8 * (7 - q))
            push_cast at e
            rw [e] at hown5
            exact hown5
          exact ⟨⟨q + 1, by omega, by go_num, R, hr5, hb5⟩, by simp [intOf]; omega⟩
        · obtain rfl : q = 8 := by omega
          have R : wr.ownsRow (w.heap.size + 1) 5 1 (.slice ao6 (bs.length + 1 + k + 8) cap6) (bs.length + 1 + k + 8) (Lib.byteCells (bs ++ tailB bs.length bs.length)) := by
            rw [tailB, ← HZS.out, ← List.append_assoc]
            exact hown
          have hS := Sl.ofOwns R
          have hag : ∀ a n c, (Value.slice ao6 (bs.length + 1 + k + 8) cap6) = .slice (some a) n c → a.block ≠ w.heap.size := by
            intro a n c e
            have := (R.lt a.block (by cases e; rfl)).1
            omega
          clear hown R
          obtain ⟨T, hT⟩ : ∃ T, T = bs ++ tailB bs.length bs.length := ⟨_, rfl⟩
          have hTl : T.length = bs.length + 1 + k + 8 := by rw [hT, List.length_append, tailB_length, ← HZS.out]; omega
          obtain ⟨m, hm⟩ := whole_length bs
          rw [← hT] at hm hS
          have hsha := sha_whole bs
          rw [← hT, show T.length / 64 = m by omega] at hsha
          have HSHA := hid hsha
          have HT := hid hT
          have hcap := hS.cap
          rw [Lib.byteCells_length] at hcap
          obtain ⟨n6, hn6⟩ : ∃ n6, n6 = bs.length + 1 + k + 8 := ⟨_, rfl⟩
          rw [← hn6] at hTl hS
          have HN6 := hid hn6
          have hm6 : n6 = 64 * m := by omega
          have hlr := lt_of_block hr
          have hlb : wr.heap.size < wr.heap.size + 1 := by omega
          have hxlt : ∀ a n c, Value.slice ao6 n6 cap6 = .slice (some a) n c → a.block < wr.heap.size := by
            intro a n c e
            cases e
            exact hS.lt (i := 0) (by rw [Lib.byteCells_length]; omega)
          rw [show ((8 : Nat) : Int) = 8 from rfl]
          rw [← hn6]
          have hn6b : n6 ≤ 140737488355328 := by omega
          clear hT hsha hag hn6
          go_wp2_with (first
            | refine wpList_build_to rfl 58 _ rfl ((Sha.begin Sha.u32).list.map W32).toArray (by rw [begin_lit]; kernel_rfl) ?_
            | (refine wpList_store_all rfl 58 _ _ rfl wr.heap.size ((Sha.begin Sha.u32).list.map W32).toArray rfl rfl _ _ (heap_alloc_new wr _) 8 Tryd.sizeW8 (by rw [cells32_size, list8]) rfl (cells32_one _) ?_; intro w5 hg5 hk5))
          have hx5 : Below wr.heap.size wr w5 := ((Below.refl _ _).alloc (Nat.le_refl _) _).trans (hk5.below (by simp) fun j hj => by show ¬ j = _; omega)
          have hz5 := hx5.size
          have hy5 := lt_of_block hg5
          refine (firsts_any _).mono ?_
          rintro e w6 ⟨rfl, hb6⟩
          have hx6 := below_step hx5 hb6 hz5
          have hg6 := (hb6.block _ hy5).trans hg5
          have hz6 := hb6.size
          clear hb6 hg5 hk5 hx5
          go_wp2_with (refine wpList_store_all rfl 64 _ _ rfl w6.heap.size (FK.map W32).toArray rfl rfl _ _ (heap_alloc_new w6 _) 64 Tryd.sizeW64 (by rw [cells32_size, FK_length]) rfl (cells32_one _) ?_; intro w7 hg7 hk7)
          have hx7 : Below wr.heap.size wr w7 := (hx6.alloc (by omega) _).trans (hk7.below (by simp; omega) fun j hj => by show ¬ j = _; omega)
          have hh7 := (hk7.block wr.heap.size (by simp; omega) (by show ¬ _ = w6.heap.size; omega)).trans ((heap_alloc_old w6 _ (by omega)).trans hg6)
          have hr7 := (hx7.block _ hlr).trans hr
          have hS7 := hS.old hx7
          have hb7 := below_step hbel hx7 (by omega)
          have hz7 := hx7.size
          have hy7 := lt_of_block hg7
          obtain ⟨hB, hBe⟩ : ∃ hB, hB = wr.heap.size := ⟨_, rfl⟩
          obtain ⟨kB, kBe⟩ : ∃ kB, kB = w6.heap.size := ⟨_, rfl⟩
          rw [← hBe] at hh7 hlr hxlt hz5 hy5 ⊢
          rw [← kBe] at hg7 hy7 hz6 ⊢
          have hBk : hB < kB := by omega
          clear hx6 hg6 hk7 hx7 hr hS hbel hz7 hy7 hz5 hy5 hz6 hBe kBe
          skip
          go_loopw [8] (fun i wx => ∃ j : Nat, j ≤ m ∧ i = .int .i64 (64 * (j : Int)) ∧ wx.heap[hB]? = some (.cells ((Sha.blocks Sha.u32 j (Sha.begin Sha.u32) (T.map Sha.inn)).list.map W32).toArray 58 (0, 0)) ∧ wx.heap[kB]? = some (.cells (FK.map W32).toArray 64 (0, 0)) ∧ wx.heap[w.heap.size]? = some (.cells (Lib.byteCells Z).toArray 47 (0, 0)) ∧ Sl wx (.slice ao6 n6 cap6) (Lib.byteCells T) ∧ Below w.heap.size w wx) (fun i _ => n6 - (intOf i).toNat)
          case atStart => exact ⟨0, by omega, rfl, hh7, hg7, hr7, hS7, hb7⟩
          case round =>
            clear hh7 hg7 hr7 hS7 hb7
            obtain ⟨j, hj, rfl, hh, hf, hr, hS, hbel⟩ := hrel
            by_cases hlt : j < m
            · obtain ⟨a, _, rfl, _, _⟩ := hS.byteAt' (i := 0) (by omega)
              have hm := hS.mid (64 * j) (64 * j + 64) (by omega) (by rw [Lib.byteCells_length]; omega)
              rw [Nat.add_sub_cancel_left, ← byteCells_drop, ← byteCells_take] at hm
              have i0 : (0 : Int) ≤ (j : Int) := Int.natCast_nonneg _
              have i1 : 64 * (j : Int) < (n6 : Int) := by omega
              have i2 : 64 * (j : Int) + 64 ≤ (cap6 : Int) := by omega
              have i3 : ¬ cap6 = 64 * j := by omega
              have i4 : 64 * (j : Int) + 64 ≤ 9223372036854775807 := by omega
              have iw : IntKind.i64.wrap (64 * (j : Int) + 64) = 64 * (j : Int) + 64 := IntWalk.i64_in _ (by omega)
              have i5 : (0 : Int) ≤ 64 * (j : Int) + 64 := by omega
              have i6 : (0 : Int) ≤ 64 * (j : Int) := by omega
              have i7 : 64 * (j : Int) ≤ 64 * (j : Int) + 64 := by omega
              have i8 : (64 * (j : Int) + 64).toNat = 64 * j + 64 := by omega
              have i9 : (64 * (j : Int)).toNat = 64 * j := by omega
              have hsum : 64 * j + 64 - 64 * j = 64 := by omega
              have hll : ((T.drop (64 * j)).take 64).length = 64 := by rw [List.length_take, List.length_drop]; omega
              obtain ⟨st, hst⟩ : ∃ st, st = Sha.blocks Sha.u32 j (Sha.begin Sha.u32) (T.map Sha.inn) := ⟨_, rfl⟩
              rw [← hst] at hh
              have HST := hid hst
              have hkl := lt_of_block hf
              have hrl := lt_of_block hr
              have hal := hxlt _ _ _ rfl
              obtain ⟨nst, hnst⟩ : ∃ n, n = Sha.block Sha.u32 st (((T.drop (64 * j)).take 64).map Sha.inn) := ⟨_, rfl⟩
              obtain ⟨F0, hF0⟩ : ∃ F0, F0 = FK.map W32 := ⟨_, rfl⟩
              have hu45 := Tryd.underlying64
              have hi45 : (Tryd.prog.info? 64).map (·.size) = some F0.length := by rw [hF0, List.length_map, FK_length, Tryd.sizeW64]
              have blk2 := rblock_any st _ _ hll wr.drew hm
              rw [← hnst, ← hF0, W8_lit, W8_lit] at blk2
              rw [← hF0] at hf
              have hrg : wr.drew.rangeAt kB 0 F0 := range_whole (w := wr.drew) hf
              have c0 : wr.drew.cell? ⟨hB, 0, none⟩ = some (.int .u32 (st.a.toNat : Int)) := blk32_at (w := wr.drew) hh rfl
              have c1 : wr.drew.cell? ⟨hB, 1, none⟩ = some (.int .u32 (st.b.toNat : Int)) := blk32_at (w := wr.drew) hh rfl
              have c2 : wr.drew.cell? ⟨hB, 2, none⟩ = some (.int .u32 (st.c.toNat : Int)) := blk32_at (w := wr.drew) hh rfl
              have c3 : wr.drew.cell? ⟨hB, 3, none⟩ = some (.int .u32 (st.d.toNat : Int)) := blk32_at (w := wr.drew) hh rfl
              have c4 : wr.drew.cell? ⟨hB, 4, none⟩ = some (.int .u32 (st.e.toNat : Int)) := blk32_at (w := wr.drew) hh rfl
              have c5 : wr.drew.cell? ⟨hB, 5, none⟩ = some (.int .u32 (st.f.toNat : Int)) := blk32_at (w := wr.drew) hh rfl
              have c6 : wr.drew.cell? ⟨hB, 6, none⟩ = some (.int .u32 (st.g.toNat : Int)) := blk32_at (w := wr.drew) hh rfl
              have c7 : wr.drew.cell? ⟨hB, 7, none⟩ = some (.int .u32 (st.h.toNat : Int)) := blk32_at (w := wr.drew) hh rfl
              have hne' : hB ≠ kB := by omega
              have HH := hid hh
              have HF := hid hf
              have HR := hid hr
              have HSS := hid hS
              have HB2 := hid blk2
              have HN := hid hnst
              have HF0 := hid hF0
              have HRG := hid hrg
              have hBlt : hB < wr.drew.heap.size := by show hB < wr.heap.size; omega
              have hwb : w.heap.size < hB := hlr
              have HK8 := hid (show ∀ w8, Below wr.drew.heap.size wr.drew w8 → w8.heap[hB]? = _ from fun w8 hb => (hb.block hB hBlt).trans HH.out)
              have HKR := hid (show ∀ w8, Below wr.drew.heap.size wr.drew w8 → w8.rangeAt kB 0 F0 from fun w8 hb => range_below HRG.out hb)
              have HX := hid hxlt
              clear hst hh hf hr hS hm blk2 hnst hF0 i4 hxlt hal
              go_wp2
              refine wp_region_held_drew (S := fun wy => wy.rangeAt kB 0 F0) (by kernel_rfl) HRG.out (fun hHeld => ?_)
              refine wpAnyH_take (i := 1) (v := ?_) rfl (by kernel_rfl) (by kernel_rfl) (by kernel_rfl) (fun _ _ _ h => h) (Or.inl ⟨by rfl, ?_⟩) hHeld ?_
              rotate_left
              · intro wz hSw
                clear hSw
                go_simp
                try with_reducible rfl
              rotate_left
              refine wpAnyH_take (i := 2) (v := ?_) rfl (by kernel_rfl) (by kernel_rfl) (by kernel_rfl) (fun _ _ _ h => h) (Or.inl ⟨by rfl, ?_⟩) hHeld ?_
              rotate_left
              · intro wz hSw
                clear hSw
                go_simp
                try with_reducible rfl
              rotate_left
              refine wpAnyH_take (i := 3) (v := ?_) rfl (by kernel_rfl) (by kernel_rfl) (by kernel_rfl) (fun _ _ _ h => h) (Or.inl ⟨by rfl, ?_⟩) hHeld ?_
              rotate_left
              · intro wz hSw
                clear hSw
                go_simp
                try with_reducible rfl
              rotate_left
              refine wpAnyH_take (i := 4) (v := ?_) rfl (by kernel_rfl) (by kernel_rfl) (by kernel_rfl) (fun _ _ _ h => h) (Or.inl ⟨by rfl, ?_⟩) hHeld ?_
              rotate_left
              · intro wz hSw
                clear hSw
                go_simp
                try with_reducible rfl
              rotate_left
              refine wpAnyH_take (i := 5) (v := ?_) rfl (by kernel_rfl) (by kernel_rfl) (by kernel_rfl) (fun _ _ _ h => h) (Or.inl ⟨by rfl, ?_⟩) hHeld ?_
              rotate_left
              · intro wz hSw
                clear hSw
                go_simp
                try with_reducible rfl
              rotate_left
              refine' wpAnyH_take (i := 6) (v := _) rfl (by kernel_rfl) (by kernel_rfl) (by kernel_rfl) (fun _ _ _ h => h) (yieldsIf_load_mid (by rfl) _ _ rfl kB 0 rfl F0 _ (fun _ h => h) hu45 rfl hi45) hHeld ?_
              refine wpAnyH_ready (rs := [0]) (by kernel_rfl) (by simp) ?_
              refine AllReadyH.cons rfl (fun K hK => ?_) AllReadyH.nil
              clear hHeld
              go_simp
              refine hK.out _ _ HRG.out (fun _ => ?_)
              clear hK
              refine wpAnyH_ready (rs := [7]) (by kernel_rfl) (by simp) ?_
              refine AllReadyH.cons rfl (fun K hK => ?_) AllReadyH.nil
              go_simp
              go_wp2_with (go_at_call 35; with_reducible refine HB2.out.mono ?_; rintro e w8 ⟨rfl, hb8⟩; have hh8 := HK8.out w8 hb8; have hr8 := HKR.out w8 hb8; have f0 := blk_free (i := 0) hh8; have f1 := blk_free (i := 1) hh8; have f2 := blk_free (i := 2) hh8; have f3 := blk_free (i := 3) hh8; have f4 := blk_free (i := 4) hh8; have f5 := blk_free (i := 5) hh8; have f6 := blk_free (i := 6) hh8; have f7 := blk_free (i := 7) hh8; clear c0 c1 c2 c3 c4 c5 c6 c7; have c0 : w8.cell? ⟨hB, 0, none⟩ = some (.int .u32 (st.a.toNat : Int)) := blk32_at hh8 rfl; have c1 : w8.cell? ⟨hB, 1, none⟩ = some (.int .u32 (st.b.toNat : Int)) := blk32_at hh8 rfl; have c2 : w8.cell? ⟨hB, 2, none⟩ = some (.int .u32 (st.c.toNat : Int)) := blk32_at hh8 rfl; have c3 : w8.cell? ⟨hB, 3, none⟩ = some (.int .u32 (st.d.toNat : Int)) := blk32_at hh8 rfl; have c4 : w8.cell? ⟨hB, 4, none⟩ = some (.int .u32 (st.e.toNat : Int)) := blk32_at hh8 rfl; have c5 : w8.cell? ⟨hB, 5, none⟩ = some (.int .u32 (st.f.toNat : Int)) := blk32_at hh8 rfl; have c6 : w8.cell? ⟨hB, 6, none⟩ = some (.int .u32 (st.g.toNat : Int)) := blk32_at hh8 rfl; have c7 : w8.cell? ⟨hB, 7, none⟩ = some (.int .u32 (st.h.toNat : Int)) := blk32_at hh8 rfl; have HR8 := hid hr8; have HH8 := hid hh8; clear hr8 hh8)
              refine hK.out _ _ HR8.out (fun _ => ?_)
              clear hK
              refine wpAnyH_ready (rs := [8]) (by kernel_rfl) (by simp) ?_
              refine AllReadyH.cons rfl (fun K hK => ?_) AllReadyH.nil
              go_simp
              refine hK.out _ _ (range_far' (range_far' (range_far' (range_far' (range_far' (range_far' (range_far' (range_far' HR8.out _ _ _ hne') _ _ _ hne') _ _ _ hne') _ _ _ hne') _ _ _ hne') _ _ _ hne') _ _ _ hne') _ _ _ hne') (fun _ => ?_)
              clear hK
              refine wpAnyH_done (by kernel_rfl) ?_ _
              obtain ⟨wz, ewz, hrow, hfar, hbz⟩ := after8 nst HH8.out hb8 hbel (by omega)
              have hff := (hfar kB (lt_of_block HF.out) (fun h => hne' h.symm)).trans HF.out
              have hrr := (hfar w.heap.size (lt_of_block HR.out) (by omega)).trans HR.out
              have hSz := HSS.out.kept (w' := wz) fun a' n' c' e _ => hfar a'.block (by have := HX.out a' n' c' e; have := lt_of_block HF.out; omega) (by have := HX.out a' n' c' e; omega)
              rw [HN.out, HST.out, List.map_take, List.map_drop, ← Sha.blocks_succ] at hrow
              rw [HF0.out] at hff
              clear hfar HB2 HH HF HR HSS HRG HK8 HKR HR8 HH8 hb8
              rw [ewz]
              clear ewz
              go_wp2
              go_roundw
              case rel => exact ⟨j + 1, by omega, by go_num, hrow, hff, hrr, hSz, hbz⟩
              case measure => simp [intOf]; omega
            · obtain rfl : j = m := by omega
              rw [← HSHA.out] at hh
              obtain ⟨s, hs⟩ : ∃ s, s = Sha.sha Sha.u32 (bs.map Sha.inn) := ⟨_, rfl⟩
              have hKd : Sha.sum bs = Sha.keyOf s := by rw [hs]; rfl
              obtain ⟨K, hK⟩ : ∃ K, K = Sha.sum bs := ⟨_, rfl⟩
              rw [← hs] at hh
              rw [← hK] at hKd
              have HKS := hid hK
              have hKl : K.length = 32 := by rw [hKd, Sha.keyOf_length]
              have HK := hid hKd
              have e1 : ¬ 64 * (j : Int) < (n6 : Int) := by omega
              have hrl := lt_of_block hr
              have hhl := lt_of_block hh
              have hwb : w.heap.size < hB := hlr
              clear hs hKd hK hS hf HSHA HT hm hTl hxlt hcap hj hlt
              obtain ⟨M, hM⟩ : ∃ M, M = wr.heap.size := ⟨_, rfl⟩
              have HM := hid hM
              rw [← hM] at hrl hhl
              go_wp2
              go_loopw [10] (fun i wx => ∃ q : Nat, q ≤ 32 ∧ i = .int .i64 (q : Int) ∧ wx.heap[hB]? = some (.cells (s.list.map W32).toArray 58 (0, 0)) ∧ wx.heap[w.heap.size]? = some (.cells (Lib.byteCells Z).toArray 47 (0, 0)) ∧ wx.heap[M]? = some (.cells (Lib.byteCells (K.take q ++ List.replicate (32 - q) 0)).toArray 47 (0, 0)) ∧ Below w.heap.size w wx) (fun i _ => 32 - (intOf i).toNat)
              case atStart =>
                subst hM
                exact ⟨0, by omega, rfl, (heap_alloc_old wr _ hhl).trans hh, (heap_alloc_old wr _ hrl).trans hr, heap_alloc_new wr _, hbel.alloc hbel.size _⟩
              case round =>
                clear hh hr hbel hM
                obtain ⟨q, hq, rfl, hh, hr, ho, hbel⟩ := hrel
                by_cases hlt : q < 32
                · obtain ⟨a, ha⟩ : ∃ a, a = q / 4 := ⟨_, rfl⟩
                  obtain ⟨b, hb⟩ : ∃ b, b = q % 4 := ⟨_, rfl⟩
                  obtain ⟨x, hx⟩ : ∃ x, s.list[a]? = some x := ⟨_, List.getElem?_eq_getElem (by rw [list8]; omega)⟩
                  have hk : K[q]? = some (Sha.byteOf x b) := by
                    rw [HK.out]
                    have := keyOf_at s (j := b) hx (by omega) (by omega)
                    rwa [show 4 * a + b = q by omega] at this
                  have hc := blk32_at hh hx
                  have hc0 : wr.cell? ⟨M, q, none⟩ = some (.int .u8 (((0 : UInt8).toNat : Nat) : Int)) := blk8_at ho (by rw [List.getElem?_append_right (by rw [List.length_take]; omega), List.length_take, List.getElem?_replicate, if_pos (by omega)])
                  have hf0 := blk_free (i := q) ho
                  have hnew := blk8_set ho q (Sha.byteOf x b)
                  rw [fill_set K 0 32 q hk (by omega)] at hnew
                  have hold := (Below.heap_setCell wr ⟨M, q, none⟩ (.int .u8 ((Sha.byteOf x b).toNat : Int)) w.heap.size (by show ¬ w.heap.size = M; omega)).trans hr
                  have holh := (Below.heap_setCell wr ⟨M, q, none⟩ (.int .u8 ((Sha.byteOf x b).toNat : Int)) hB (by show ¬ hB = M; omega)).trans hh
                  have HN := hid hnew
                  have HO := hid hold
                  have HH := hid holh
                  have i1 : (q : Int) < 32 := by omega
                  have i0 : (0 : Int) ≤ (q : Int) := Int.natCast_nonneg _
                  have q4 : (q : Int) / 4 = (a : Int) := by omega
                  have r4 : (q : Int) % 4 = (b : Int) := by omega
                  have q5 : (a : Int) < 8 := by omega
                  have h7 : (0 : Int) ≤ 24 - 8 * (b : Int) := by omega
                  have h8 : 24 - 8 * (b : Int) ≤ 32 := by omega
                  have h9 : (24 - 8 * (b : Int)).toNat = 24 - 8 * b := by omega
                  have b0 : (0 : Int) ≤ (b : Int) := Int.natCast_nonneg _
                  have b1 : (b : Int) < 4 := by omega
                  have hal : a < 8 := by omega
                  clear ho hr hh hnew hold holh hk hx ha hb
                  have hMB : w.heap.size ≤ M := by omega
                  have e := HM.out
                  clear HM
                  subst e
                  go_wp2
                  rw [byteOf_div]
                  exact ⟨⟨q + 1, by omega, by go_num, HH.out, HO.out, HN.out, hbel.setCell (p := ⟨_, q, none⟩) hMB _⟩, by simp [intOf]; omega⟩
                · obtain rfl : q = 32 := by omega
                  have hb2 : wr.heap[M]? = some (.cells (Lib.byteCells K).toArray 47 (0, 0)) := by
                    rw [ho, List.take_of_length_le (by omega), Nat.sub_self, List.replicate_zero, List.append_nil]
                  have hKs : (Lib.byteCells K).toArray.size = 32 := by rw [List.size_toArray, Lib.byteCells_length, hKl]
                  have hKi : (Tryd.prog.info? 47).map (·.size) = some (Lib.byteCells K).toArray.size := by rw [hKs, Tryd.sizeKey]
                  have hZs : (Lib.byteCells Z).toArray.size = 32 := by rw [List.size_toArray, Lib.byteCells_length, HZ.out, List.length_replicate]
                  have hK1 : (Lib.byteCells K).toArray.all (·.oneCell') = true := by
                    rw [Array.all_eq_true_iff_forall_mem]
                    intro v hv
                    exact byte_one K v (by simpa using hv)
                  rw [show ((32 : Nat) : Int) = 32 from rfl]
                  clear hq hlt ho hh
                  have e := HM.out
                  clear HM
                  subst e
                  go_wp2_with (first
                    | refine wpList_load_row rfl 47 _ rfl _ rfl _ _ _ _ hb2 Tryd.underlying47 rfl hKi ?_
                    | (refine wpList_store_all rfl 47 _ _ rfl w.heap.size _ rfl rfl _ _ hr 32 Tryd.sizeKey hKs hZs hK1 ?_; intro w9 hg9 hk9))
                  have hb9 : Below w.heap.size w w9 := hbel.trans (hk9.below hbel.size fun k hk => by show ¬ k = _; omega)
                  exact bodyPost_ret (results_cell_row rfl _ _ w.heap.size _ _ _ _ rfl hg9 Tryd.underlying47 rfl hKi) rfl ⟨by rw [HKS.out], hb9⟩
end Go.Proofs.YtjnhgoedhggocaaDoor
