/-
  Package digest: one block mixed in (state.add), and all blocks (state.addAll). The table of the rounds' words is a condition.
-/
import Derived.Test.YtjnhgoedhggocaaDoorDigA
namespace Go.Proofs.YtjnhgoedhggocaaDoor
open Go.RowKit

/-- The table of the rounds' words stands. -/
structure Tab (w : World) : Prop where
  cell : ∀ (i c : Nat), Sha.firsts[i]? = some c → w.cell? ⟨0, i, none⟩ = some (.int .u32 ((Sha.u32.con c).toNat : Int))
theorem Tab.pos {w : World} (h : Tab w) : 0 < w.heap.size := World.block_lt_of_cell? w _ (h.cell 0 _ rfl)
theorem Tab.kept {w w' : World} (h : Tab w) (hk : w'.heap[0]? = w.heap[0]?) : Tab w' :=
  ⟨fun i c hc => (World.cell?_of_block (a := ⟨0, i, none⟩) (w := w) (w' := w') hk).trans (h.cell i c hc)⟩
theorem Tab.old {w w' : World} {B : Nat} (h : Tab w) (hk : Below B w w') (hB : 0 < B) : Tab w' := h.kept (hk.block 0 hB)

/-- A state's words. -/
def StAt (w : World) (b : Nat) (s : Sha.St UInt32) : Prop := w.heap[b]? = some (.cells (s.list.map W32).toArray 59 (0, 0))

theorem turned_q (x : UInt32) (r : Nat) (h1 : 0 < r) (h2 : r < 32) (w : World) (n : Nat) :
    Calls Tryd.prog 45 #[.int .u32 x.toNat, .int .u64 r] (w.drewN n) fun e w' => e = .returned (.int .u32 (Sha.u32.rot r x).toNat) ∧ ∃ m, w' = w.drewN m :=
  Calls.quiet_of_same ((turned_any x r h1 h2 _).mono fun _ _ ⟨h, e⟩ => ⟨h, e.symm⟩)

theorem tq6 (x : UInt32) (w : World) (n : Nat) : Calls Tryd.prog 45 #[.int .u32 x.toNat, .int .u64 6] (w.drewN n) fun e w' => e = .returned (.int .u32 (Sha.u32.rot 6 x).toNat) ∧ ∃ m, w' = w.drewN m := turned_q x 6 (by decide) (by decide) w n
theorem tq11 (x : UInt32) (w : World) (n : Nat) : Calls Tryd.prog 45 #[.int .u32 x.toNat, .int .u64 11] (w.drewN n) fun e w' => e = .returned (.int .u32 (Sha.u32.rot 11 x).toNat) ∧ ∃ m, w' = w.drewN m := turned_q x 11 (by decide) (by decide) w n
theorem tq25 (x : UInt32) (w : World) (n : Nat) : Calls Tryd.prog 45 #[.int .u32 x.toNat, .int .u64 25] (w.drewN n) fun e w' => e = .returned (.int .u32 (Sha.u32.rot 25 x).toNat) ∧ ∃ m, w' = w.drewN m := turned_q x 25 (by decide) (by decide) w n

/-- Nothing happened but draws. -/
structure Calm (w w' : World) : Prop where
  heap : w'.heap = w.heap
  os : w'.os = w.os
  tape : w'.tape = w.tape
  output : w'.output = w.output
theorem Calm.refl (w : World) : Calm w w := ⟨rfl, rfl, rfl, rfl⟩
theorem Calm.drewN {w w' : World} (h : Calm w w') (n : Nat) : Calm w (w'.drewN n) := ⟨h.heap, h.os, h.tape, h.output⟩
theorem Calm.drew {w w' : World} (h : Calm w w') : Calm w w'.drew := ⟨h.heap, h.os, h.tape, h.output⟩
theorem Calm.cell {w w' : World} (h : Calm w w') {a : Addr} {v : Value} (hc : w.cell? a = some v) : w'.cell? a = some v :=
  (World.cell?_of_block (w := w) (w' := w') (by rw [h.heap])).trans hc
theorem Calm.keep {w w' : World} (h : Calm w w') (S : Nat → Prop) : Keep S w w' := ⟨h.os, h.tape, h.output, by rw [h.heap]; exact Nat.le_refl _, fun _ _ _ => by rw [h.heap]⟩
theorem wnot (x : UInt32) : bits .xor .u32 IntKind.u32.max (x.toNat : Int) = ((Sha.u32.not x).toNat : Int) := by
  rw [show IntKind.u32.max = ((4294967295 : Nat) : Int) from rfl, u32_xor_nat _ _ (by decide) (Sha.lt32 x), Sha.u32_not, Nat.xor_comm]

theorem wbig1 (x : UInt32) : bits .xor .u32 (bits .xor .u32 ((Sha.u32.rot 6 x).toNat : Int) ((Sha.u32.rot 11 x).toNat : Int)) ((Sha.u32.rot 25 x).toNat : Int) = ((Sha.big1 Sha.u32 x).toNat : Int) := by
  rw [wx, wx]
  rfl
theorem wbig0 (x : UInt32) : bits .xor .u32 (bits .xor .u32 ((Sha.u32.rot 2 x).toNat : Int) ((Sha.u32.rot 13 x).toNat : Int)) ((Sha.u32.rot 22 x).toNat : Int) = ((Sha.big0 Sha.u32 x).toNat : Int) := by
  rw [wx, wx]
  rfl
theorem wpick (e f g : UInt32) : bits .xor .u32 (bits .and .u32 (e.toNat : Int) (f.toNat : Int)) (bits .and .u32 (bits .xor .u32 IntKind.u32.max (e.toNat : Int)) (g.toNat : Int)) = ((Sha.pick Sha.u32 e f g).toNat : Int) := by
  rw [wnot, wa, wa, wx]
  rfl
theorem wmost (a b c : UInt32) : bits .xor .u32 (bits .xor .u32 (bits .and .u32 (a.toNat : Int) (b.toNat : Int)) (bits .and .u32 (a.toNat : Int) (c.toNat : Int))) (bits .and .u32 (b.toNat : Int) (c.toNat : Int)) = ((Sha.most Sha.u32 a b c).toNat : Int) := by
  rw [wa, wa, wa, wx, wx]
  rfl
theorem wadd5 (a b c d e : UInt32) : ((a.toNat : Int) + (b.toNat : Int) + (c.toNat : Int) + (d.toNat : Int) + (e.toNat : Int)) % 4294967296 = ((Sha.u32.add (Sha.u32.add (Sha.u32.add (Sha.u32.add a b) c) d) e).toNat : Int) := by
  rw [Sha.u32_add, Sha.u32_add, Sha.u32_add, Sha.u32_add, Sha.mask_mod, Sha.mask_mod, Sha.mask_mod, Sha.mask_mod]
  omega
theorem wadd3 (a b c : UInt32) : ((a.toNat : Int) + ((b.toNat : Int) + (c.toNat : Int)) % 4294967296) % 4294967296 = ((Sha.u32.add (Sha.u32.add a b) c).toNat : Int) := by
  rw [Sha.u32_add, Sha.u32_add, Sha.mask_mod, Sha.mask_mod]
  omega

theorem over_get {α : Type} (T S : List α) (k : Nat) (h : k ≤ T.length) : (T.take k ++ S.drop k)[k]? = S[k]? := by
  have hl : (T.take k).length = k := by rw [List.length_take]; omega
  rw [List.getElem?_append_right (by omega), hl, Nat.sub_self, List.getElem?_drop, Nat.add_zero]
theorem over_set {α : Type} (T S : List α) {k : Nat} {x : α} (hx : T[k]? = some x) (hk : k < S.length) : (T.take k ++ S.drop k).set k x = T.take (k + 1) ++ S.drop (k + 1) := by
  have hT := (List.getElem?_eq_some_iff.1 hx).1
  have hl : (T.take k).length = k := by rw [List.length_take]; omega
  rw [List.set_append_right _ _ (by omega), hl, Nat.sub_self, List.drop_eq_getElem_cons hk, List.set_cons_zero, take_snoc hx, List.append_assoc]
  rfl
theorem sumSt_list (s t : Sha.St UInt32) : (Sha.sumSt Sha.u32 s t).list = List.zipWith Sha.u32.add s.list t.list := rfl
theorem Tryd.size32 : (Tryd.prog.info? 28).map (·.size) = some 1 := by kernel_rfl
theorem list8 (s : Sha.St UInt32) : s.list.length = 8 := rfl

/-- 'a[i]' of an array by value, of elements of one cell each that are no aggregates. -/
theorem run_index_arr {P : Program} (t e : TypeId) (n : Nat) (cs : Array Value) (i : Nat) (v : Value) {ie : TypeInfo} (d : TypeDesc) (ht : P.underlying t = some (.array n e)) (he : P.underlying e = some d) (hd : (match d with | .struct _ | .array _ _ => true | _ => false) = false)
    (hie : P.info? e = some ie) (h1 : ie.size = 1) (hi : i < n) (hv : cs[i]? = some v) : ∀ w, (Instr.index t (.agg cs) (.int .i64 (i : Int))).run P w = .ok v w := by
  intro w
  have hagg : (isAgg e).run P w = .ok false w := by
    unfold isAgg
    rw [Sem.run_bind, run_underlying he w]
    cases d <;> simp_all
  simp [Instr.index, run_underlying ht, asIntOf, hi, sizeOf, typeInfo, hie, h1, part, hagg, hv]

/-- A whole array, stored: the block behind it. -/
theorem wpList_store_all {P : Program} {ops : Array Oper} {rest : List Oper} {o : Oper} {a : Act} {w : World} {Q : Exit → Act → World → Prop} (hgd : o.guard = none) (ty : TypeId) (x y : Operand) (ho : o.op = .store ty x y)
    (g : Nat) (cells : Array Value) (hx : a.eval x = .pointer (some ⟨g, 0, none⟩)) (hy : a.eval y = .agg cells)
    (t : TypeId) (old : Array Value) (hg : w.heap[g]? = some (.cells old t (0, 0))) (n : Nat) (hi : (P.info? ty).map (·.size) = some n) (hn : cells.size = n)
    (hold : old.size = n) (h1 : cells.all (·.oneCell') = true)
    (h : ∀ w', w'.heap[g]? = some (.cells cells t (0, 0)) → Keep (· = g) w w' → wpList P ops Q rest (a.put o.dst undef) w') : wpList P ops Q (o :: rest) a w :=
  wpList_store_row hgd ty x y ho g cells hx hy t old hg (by rw [hi, hn]) (by rw [hold, hn]) h1 (h _ (setRow_heap w g old cells t _ hg) ⟨rfl, rfl, rfl, by simp [World.setRow], fun k _ hk => setRow_other w g k _ hk⟩)

set_option maxRecDepth 100000 in
set_option maxHeartbeats 4000000 in
theorem add_any (b : Nat) (s : Sha.St UInt32) (v : Value) (bs : List UInt8) (hl : bs.length = 64) (w : World) (hv : Sl w v (Lib.byteCells bs)) (ht : Tab w) (hs : StAt w b s) :
    Calls Tryd.prog 40 #[.pointer (some ⟨b, 0, none⟩), v] w fun e w' => e = .returned (.tuple #[]) ∧ StAt w' b (Sha.block Sha.u32 s (bs.map Sha.inn)) ∧ Keep (· = b) w w' := by
  unfold StAt at hs
  have hbl := lt_of_block hs
  go_enter Tryd.func40, Tryd.ntmps40
  go_wp2_with fail
  refine (schedule_any v bs hl w hv).mono ?_
  rintro e w1 ⟨rfl, hb1⟩
  obtain ⟨G, hG⟩ : ∃ G, G = (Sha.grow Sha.u32 48 (Sha.words Sha.u32 (bs.map Sha.inn)).reverse).reverse := ⟨_, rfl⟩
  have hGl : G.length = 64 := by rw [hG, List.length_reverse, Sha.grow_length, List.length_reverse, Sha.words_length Sha.u32 16 _ (by rw [List.length_map, hl])]
  rw [← hG]
  have HG := hid hG
  clear hG hv
  have ht1 := ht.old hb1 ht.pos
  have hs1 := (hb1.block b hbl).trans hs
  have hz1 := hb1.size
  go_wp2_with (refine wpList_store_all rfl 64 _ _ rfl w1.heap.size (G.map W32).toArray rfl rfl _ _ (heap_alloc_new w1 _) 64 Tryd.sizeW64 (by rw [cells32_size, hGl]) rfl (cells32_one G) ?_; intro w2 hg2 hk2)
  have ht2 : Tab w2 := (ht1.kept (heap_alloc_old w1 _ (by omega))).kept (hk2.block 0 (by simp) (by show ¬ 0 = _; omega))
  have hs2 : w2.heap[b]? = some (.cells (s.list.map W32).toArray 59 (0, 0)) := (hk2.block b (by simp; omega) (by show ¬ b = _; omega)).trans ((heap_alloc_old w1 _ (by omega)).trans hs1)
  have hbw2 : Below w.heap.size w w2 := (hb1.alloc hz1 _).trans (hk2.below (by simp; omega) fun k hk => by show ¬ k = _; omega)
  clear hk2 hs1 ht1 ht hs
  have c0 : w2.cell? ⟨b, 0, none⟩ = some (.int .u32 (s.a.toNat : Int)) := blk32_at hs2 rfl
  have c1 : w2.cell? ⟨b, 1, none⟩ = some (.int .u32 (s.b.toNat : Int)) := blk32_at hs2 rfl
  have c2 : w2.cell? ⟨b, 2, none⟩ = some (.int .u32 (s.c.toNat : Int)) := blk32_at hs2 rfl
  have c3 : w2.cell? ⟨b, 3, none⟩ = some (.int .u32 (s.d.toNat : Int)) := blk32_at hs2 rfl
  have c4 : w2.cell? ⟨b, 4, none⟩ = some (.int .u32 (s.e.toNat : Int)) := blk32_at hs2 rfl
  have c5 : w2.cell? ⟨b, 5, none⟩ = some (.int .u32 (s.f.toNat : Int)) := blk32_at hs2 rfl
  have c6 : w2.cell? ⟨b, 6, none⟩ = some (.int .u32 (s.g.toNat : Int)) := blk32_at hs2 rfl
  have c7 : w2.cell? ⟨b, 7, none⟩ = some (.int .u32 (s.h.toNat : Int)) := blk32_at hs2 rfl
  go_wp2
  go_quiet (fail)
  clear c0 c1 c2 c3 c4 c5 c6 c7
  go_wp2
  go_loopw [54, 5, 6, 7, 8, 9, 10, 11, 12] (fun i xa xb xc xd xe xf xg xh wr => ∃ k : Nat, k ≤ 64 ∧ i = .int .i64 (k : Int) ∧ ∃ st : Sha.St UInt32, st = Sha.rounds Sha.u32 s (Sha.firsts.take k) (G.take k) ∧ xa = .int .u32 (st.a.toNat : Int) ∧ xb = .int .u32 (st.b.toNat : Int) ∧ xc = .int .u32 (st.c.toNat : Int) ∧ xd = .int .u32 (st.d.toNat : Int) ∧ xe = .int .u32 (st.e.toNat : Int) ∧ xf = .int .u32 (st.f.toNat : Int) ∧ xg = .int .u32 (st.g.toNat : Int) ∧ xh = .int .u32 (st.h.toNat : Int) ∧ Calm w2 wr) (fun i _ _ _ _ _ _ _ _ _ => 64 - (intOf i).toNat)
  case atStart => exact ⟨0, by omega, rfl, s, rfl, rfl, rfl, rfl, rfl, rfl, rfl, rfl, rfl, (Calm.refl _).drewN _⟩
  case round =>
    obtain ⟨k, hk, rfl, st, hst, rfl, rfl, rfl, rfl, rfl, rfl, rfl, rfl, hcalm⟩ := hrel
    by_cases hlt : k < 64
    · obtain ⟨c, hc⟩ : ∃ c, Sha.firsts[k]? = some c := ⟨_, List.getElem?_eq_getElem (by rw [Sha.firsts_length]; exact hlt)⟩
      obtain ⟨x, hx⟩ : ∃ x, G[k]? = some x := ⟨_, List.getElem?_eq_getElem (by rw [hGl]; exact hlt)⟩
      have hcc := hcalm.cell (ht2.cell k c hc)
      have hxx := hcalm.cell (blk32_at hg2 hx)
      have hsg : ¬ IntKind.u32.signed = true := by decide
      have HST := hid (show Sha.rounds Sha.u32 s (Sha.firsts.take (k + 1)) (G.take (k + 1)) = Sha.round Sha.u32 st c x by
        rw [take_snoc hc, take_snoc hx, Sha.rounds_snoc Sha.u32 (by rw [List.length_take, List.length_take, Sha.firsts_length, hGl]), hst])
      have i1 : (k : Int) < 64 := by omega
      have i0 : (0 : Int) ≤ (k : Int) := Int.natCast_nonneg _
      clear hc hx hst
      go_wp2
      go_quiet (first
        | with_reducible exact tq6 st.e _ _
        | with_reducible exact tq11 st.e _ _
        | with_reducible exact tq25 st.e _ _)
      go_wp2_with fail
      refine (turned_any st.a 2 (by decide) (by decide) _).mono ?_
      rintro e w3 ⟨rfl, rfl⟩
      go_wp2_with fail
      refine (turned_any st.a 13 (by decide) (by decide) _).mono ?_
      rintro e w3 ⟨rfl, rfl⟩
      go_wp2_with fail
      refine (turned_any st.a 22 (by decide) (by decide) _).mono ?_
      rintro e w3 ⟨rfl, rfl⟩
      go_wp2
      refine ⟨⟨k + 1, by omega, by go_num, Sha.round Sha.u32 st c x, HST.out.symm, ?_, rfl, rfl, rfl, ?_, rfl, rfl, rfl, hcalm.drewN nq⟩, by simp [intOf]; omega⟩
      · rw [wbig1, wpick, wadd5, wbig0, wmost, wadd3]
        rfl
      · rw [wbig1, wpick, wadd5, wadd]
        rfl
    · obtain rfl : k = 64 := by omega
      rw [List.take_of_length_le (by rw [Sha.firsts_length]; exact Nat.le_refl _), List.take_of_length_le (by omega)] at hst
      have HST := hid hst
      rw [show ((64 : Nat) : Int) = 64 from rfl]
      clear hst hlt hk
      have hs3 : wr.heap[b]? = some (.cells (s.list.map W32).toArray 59 (0, 0)) := by rw [hcalm.heap]; exact hs2
      go_wp2
      go_loopw [128] (fun i wx => ∃ k : Nat, k ≤ 8 ∧ i = .int .i64 (k : Int) ∧ wx.heap[b]? = some (.cells (((Sha.sumSt Sha.u32 s st).list.take k ++ s.list.drop k).map W32).toArray 59 (0, 0)) ∧ Keep (· = b) wr wx) (fun i _ => 8 - (intOf i).toNat)
      case atStart => exact ⟨0, by omega, rfl, hs3, Keep.refl _ _⟩
      case round =>
        obtain ⟨k, hk, rfl, hbk, hkeep⟩ := hrel
        by_cases hlt : k < 8
        · obtain ⟨y0, hy0⟩ : ∃ x, s.list[k]? = some x := ⟨_, List.getElem?_eq_getElem (by rw [list8]; exact hlt)⟩
          obtain ⟨y1, hy1⟩ : ∃ x, st.list[k]? = some x := ⟨_, List.getElem?_eq_getElem (by rw [list8]; exact hlt)⟩
          have hy2 : (Sha.sumSt Sha.u32 s st).list[k]? = some (Sha.u32.add y0 y1) := by rw [sumSt_list, List.getElem?_zipWith, hy0, hy1]
          have hc0 := blk32_at hbk ((over_get _ _ k (by rw [list8]; omega)).trans hy0)
          have hf0 := blk_free (i := k) hbk
          have hnew := blk32_set hbk k (Sha.u32.add y0 y1)
          rw [over_set _ _ hy2 (by rw [list8]; exact hlt)] at hnew
          have HN := hid hnew
          have hix : (#[Value.int .u32 (st.a.toNat : Int), .int .u32 (st.b.toNat : Int), .int .u32 (st.c.toNat : Int), .int .u32 (st.d.toNat : Int), .int .u32 (st.e.toNat : Int), .int .u32 (st.f.toNat : Int), .int .u32 (st.g.toNat : Int), .int .u32 (st.h.toNat : Int)] : Array Value)[k]? = some (.int .u32 (y1.toNat : Int)) := by
            show ((st.list.map W32).toArray)[k]? = _
            simp [hy1, W32]
          have i1 : (k : Int) < 8 := by omega
          have i0 : (0 : Int) ≤ (k : Int) := Int.natCast_nonneg _
          obtain ⟨ie, hie, hsz1⟩ : ∃ ie, Tryd.prog.info? 28 = some ie ∧ ie.size = 1 := by
            have := Tryd.size32
            cases hq : Tryd.prog.info? 28 with
            | none => rw [hq] at this; cases this
            | some i => rw [hq] at this; exact ⟨i, rfl, Option.some.inj this⟩
          have hrun := run_index_arr (P := Tryd.prog) 58 28 8 _ k _ _ Tryd.underlying58 Tryd.underlying28 rfl hie hsz1 hlt hix
          clear hbk hnew hy0 hy1 hy2 hix hie hsz1
          go_wp2
          go_region
          rw [wadd]
          go_wp2
          go_roundw
          case rel => exact ⟨k + 1, by omega, by go_num, HN.out, (hkeep.setCell (p := ⟨b, k, none⟩) rfl _).drew⟩
          case measure => simp [intOf]; omega
        · obtain rfl : k = 8 := by omega
          have hfin : StAt wr b (Sha.block Sha.u32 s (bs.map Sha.inn)) := by
            unfold StAt
            rw [hbk, List.take_of_length_le (by rw [list8]; exact Nat.le_refl _), List.drop_of_length_le (by rw [list8]; exact Nat.le_refl _), List.append_nil, HST.out, HG.out]
            rfl
          have hkf := (Keep.ofBelow (S := (· = b)) hbw2).trans ((hcalm.keep _).trans hkeep)
          clear hbk hkeep hlt hk
          go_wp2
          go_end0
          exact ⟨rfl, hfin, hkf⟩
end Go.Proofs.YtjnhgoedhggocaaDoor
