/-
  DigestLong: for every number and every byte, the name of that many bytes by, by + 1, .. (fewer than 300) is what the document says, and with a byte more behind it is another name. Condition: the package's table of words holds what its initialiser lays (the card ties it to the program's text).
-/
import Derived.Test.YtaaeciiehoedhaaDoorDigG
import Derived.Test.YtaaeciiehoedhaaDoorRefB
import Derived.Test.YtaaeciiehoedhaaDoorFar
namespace Go.Proofs.YtaaeciiehoedhaaDoor.digestLong
open Go.ChangeShapes Go.WideShapes Go.ChangeAt Go.RowKit

/-- by, by + 1, .. -/
def run (n : Nat) (i : UInt8) : List UInt8 := (List.range n).map fun j => UInt8.ofNat (i.toNat + j)
theorem run_length (n : Nat) (i : UInt8) : (run n i).length = n := by simp [run]
theorem run_get (n : Nat) (i : UInt8) {j : Nat} (h : j < n) : (run n i)[j]? = some (UInt8.ofNat (i.toNat + j)) := by simp [run, h]
theorem run_nat (n : Nat) (i : UInt8) : (run n i).map UInt8.toNat = Sha.msg Sha.one n i.toNat := by
  apply List.ext_getElem?
  intro j
  by_cases h : j < n
  · rw [List.getElem?_map, run_get n i h, Sha.msg_get n i.toNat j i.toNat_lt h]
    simp
  · rw [List.getElem?_eq_none (by rw [List.length_map, run_length]; omega), List.getElem?_eq_none (by rw [Sha.msg_length]; omega)]
theorem apart (n : Nat) (i : UInt8) (hn : n < 300) : Sha.sum (run n i) ≠ Sha.sum (run n i ++ [i]) := by
  intro e
  have h1 := Sha.keyOf_h e
  have a := (Sha.sum_nat (run n i)).h
  have b := (Sha.sum_nat (run n i ++ [i])).h
  rw [run_nat] at a
  rw [List.map_append (f := UInt8.toNat), run_nat] at b
  unfold Sha.RU at a b
  rw [h1] at a
  exact Sha.far n i.toNat hn i.toNat_lt (a.symm.trans b)

theorem made_zero (n : Nat) : madeCells #[.int .u8 0] n = (Lib.byteCells (List.replicate n 0)).toArray := by
  apply Array.ext
  · simp [size_madeCells, Lib.byteCells]
  · intro i h1 h2
    have hi : i < n := by simpa [size_madeCells] using h1
    simp [madeCells, Lib.byteCells, Nat.mod_one]
theorem run_make_zero (w : World) (n : Nat) (hn : n ≤ 70368744177664) :
    (Instr.makeSlice 22 (.int .i64 (n : Int)) (.int .i64 (n : Int))).run Tryd.prog w = .ok (.slice (some ⟨w.heap.size, 0, none⟩) n n) (w.alloc (.cells (Lib.byteCells (List.replicate n 0)).toArray 5)) := by
  obtain ⟨i0, hi0, hi1, hi2, hi3⟩ := info_parts Tryd.info5
  have h := run_make (P := Tryd.prog) w 22 5 i0 (.int .u8 0) Tryd.underlying22 hi0 hi1 .i64 .i64 (n : Int) (n : Int) (by omega) (by omega) (by rw [hi3]; omega) (by omega)
  rw [hi2, Int.toNat_natCast, Nat.mul_one] at h
  rw [h, show (Value.int .u8 0).cells = #[.int .u8 0] from rfl, made_zero]
theorem mod_nat (a : Int) (q : Nat) (hq : 0 < q) (hq' : q < 1000000) : ∃ m : Nat, wrap64 ((IntKind.u64.wrap a).tmod (q : Int)) = (m : Int) ∧ m < q := by
  have h0 : 0 ≤ IntKind.u64.wrap a := by simp only [IntKind.wrap_u64]; omega
  generalize IntKind.u64.wrap a = x at h0
  obtain ⟨x, rfl⟩ := Int.eq_ofNat_of_zero_le h0
  have hx := Nat.mod_lt x hq
  have e : (x : Int).tmod (q : Int) = ((x % q : Nat) : Int) := by rw [Int.tmod_eq_emod_of_nonneg (by omega)]; omega
  exact ⟨x % q, by rw [e]; exact IntWalk.wrap64_in _ (by omega), hx⟩

theorem step_append_u8 {ops : Array Oper} {o : Oper} {a : Act} {w : World} {K : Act → World → Prop} {Q : Exit → Act → World → Prop} {E : Prop} (hw : Region.wanted o (yielded ops a.tmps) = true) (s sx : Operand)
    (ho : o.op = .call { callee := .builtin .append, args := #[s, sx], argTypes := #[22, 22] })
    (base : Nat) (v : Value) (l : List UInt8) (he : a.eval s = v) (hown : w.ownsRow base 5 1 v l.length (Lib.byteCells l)) (x : Value) (c : List UInt8) (hx : a.eval sx = x) (hs : Sl w x (Lib.byteCells c))
    (hl : l.length + c.length ≤ 70368744177664) (hbase : base ≤ w.heap.size)
    (h : ∀ v' w', w'.ownsRow base 5 1 v' (l ++ c).length (Lib.byteCells (l ++ c)) → Below base w w' → K (a.put o.dst v') w') :
    if Region.wanted o (yielded ops a.tmps) = true then Oper.wp Tryd.prog o a w K Q else E := by
  obtain ⟨i0, hi0, hz0, hz1, hz2⟩ := info_parts Tryd.info5
  have hla := Lib.byteCells_length c
  rw [if_pos hw]
  refine wp_append_any w s sx 22 22 ho base 5 i0 _ 1 1 Tryd.underlying22 hi0 hz0 hz1 hz2 rfl (by omega) v _ _ he hown x _ _ hx (hs.src Tryd.underlying22 (byte_one c)) (by rw [hla]; unfold maxLen; omega) (by rw [hla]; omega) hbase ?_
  intro v' w' h2 h3 _
  rw [hla, ← Lib.byteCells_append, ← List.length_append] at h2
  exact h v' w' h2 ⟨h3.os, h3.tape, h3.output, h3.size, fun k hk => h3.block k (by omega) fun e => by have := (hown.lt k e.symm).1; omega⟩

theorem range_of {w : World} {b : Nat} {l : List Value} {t : TypeId} {fr : Nat × Nat} (h : w.heap[b]? = some (.cells l.toArray t fr)) : w.rangeAt b 0 l := by
  intro j v hv
  simp [World.cell?, h, hv]
theorem range_old {w w' : World} {b o : Nat} {l : List Value} (h : w.rangeAt b o l) (hk : Below w.heap.size w w') : w'.rangeAt b o l := by
  intro j v hv
  have hc := h j v hv
  exact (World.cell?_of_block (w := w) (hk.block _ (World.block_lt_of_cell? w _ hc))).trans hc
/-- What the walk holds on to. -/
structure Held (w : World) (kb : Nat) (k : List UInt8) (v : Value) (b : List UInt8) (wy : World) : Prop where
  key : wy.rangeAt kb 0 (Lib.byteCells k)
  tab : Tab wy
  arg : Sl wy v (Lib.byteCells b)
  below : Below w.heap.size w wy
theorem Held.on {w wy wz : World} {kb : Nat} {v : Value} {b k : List UInt8} (h : Held w kb k v b wy) (hk : Below wy.heap.size wy wz) : Held w kb k v b wz :=
  ⟨range_old h.key hk, h.tab.old hk h.tab.pos, h.arg.old hk, below_step h.below hk h.below.size⟩

set_option maxRecDepth 1000000 in
set_option maxHeartbeats 4000000 in
theorem walk (a0 : Int) (a1 : Int) (w : World) (_w0 : (Lit.int .i64 a0).wf = true) (w1 : (Lit.int .u8 a1).wf = true) (ht : Tab w) :
    Calls Tryd.prog 4 #[.int .i64 a0, .int .u8 a1] w fun e w' => e = .returned (.bool true) ∧ Below w.heap.size w w' := by
  obtain ⟨i, rfl⟩ : ∃ i : UInt8, a1 = (i.toNat : Int) := by
    have := bounds_u8 w1
    exact ⟨UInt8.ofNat a1.toNat, by simp; omega⟩
  obtain ⟨n, hn, hn3⟩ := mod_nat a0 300 (by decide) (by decide)
  rw [show ((300 : Nat) : Int) = 300 from rfl] at hn
  have hmk := run_make_zero w n (by omega)
  have hlt := i.toNat_lt
  clear w1
  go_enter Tryd.func4, Tryd.ntmps4
  go_wp2
  clear hn hmk
  go_loopw [16, 6] (fun c _ wr => ∃ k : Nat, k ≤ n ∧ c = .int .i64 (k : Int) ∧ wr.heap[w.heap.size]? = some (.cells (Lib.byteCells ((run n i).take k ++ List.replicate (n - k) 0)).toArray 5 (0, 0)) ∧ Below w.heap.size w wr) (fun c _ _ => n - (intOf c).toNat)
  case atStart =>
    exact ⟨0, by omega, rfl, by rw [List.take_zero, List.nil_append, Nat.sub_zero]; exact heap_alloc_new w _, (Below.refl _ _).alloc (Nat.le_refl _) _⟩
  case round =>
    obtain ⟨k, hk, rfl, hbk, hbel⟩ := hrel
    by_cases hlt2 : k < n
    · have hx := run_get n i hlt2
      have hc0 : wr.cell? ⟨w.heap.size, k, none⟩ = some (.int .u8 (((0 : UInt8).toNat : Nat) : Int)) := blk8_at hbk (by rw [List.getElem?_append_right (by rw [List.length_take]; omega), List.length_take, List.getElem?_replicate, if_pos (by rw [run_length]; omega)])
      have hf0 := blk_free (i := k) hbk
      have hnew := blk8_set hbk k (UInt8.ofNat (i.toNat + k))
      rw [fill_set (run n i) 0 n k hx hlt2] at hnew
      have HN := hid hnew
      have i1 : (k : Int) < (n : Int) := by omega
      have i0 : (0 : Int) ≤ (k : Int) := Int.natCast_nonneg _
      have HV := hid (show ((UInt8.ofNat (i.toNat + k)).toNat : Int) = ((i.toNat : Int) + (k : Int)) % 256 by simp)
      clear hx hnew hbk
      go_wp2
      rw [← HV.out]
      exact ⟨⟨k + 1, by omega, by go_num, HN.out, hbel.setCell (p := ⟨w.heap.size, k, none⟩) (Nat.le_refl _) _⟩, by simp [intOf]; omega⟩
    · obtain rfl : k = n := by omega
      have hb2 : wr.heap[w.heap.size]? = some (.cells (Lib.byteCells (run k i)).toArray 5 (0, 0)) := by
        rw [hbk, List.take_of_length_le (by rw [run_length]; exact Nat.le_refl _), Nat.sub_self, List.replicate_zero, List.append_nil]
      obtain ⟨b, hb⟩ : ∃ b, b = run k i := ⟨_, rfl⟩
      have hbl : b.length = k := by rw [hb, run_length]
      have hne := apart k i hn3
      rw [← hb] at hb2 hne
      have hsl : Sl wr (.slice (some ⟨w.heap.size, 0, none⟩) k k) (Lib.byteCells b) := by
        have := Sl.ofBlock hb2
        simpa [Lib.byteCells_length, hbl] using this
      obtain ⟨K, hK⟩ : ∃ K, K = Sha.sum b := ⟨_, rfl⟩
      have hKl : K.length = 32 := by rw [hK, Sha.sum_length]
      have hKs := key_size K hKl
      have hK1 := key_one K
      have htr := ht.old hbel ht.pos
      have hS := Sum_any _ b (by omega) wr hsl htr
      rw [← hK] at hS
      have HK := hid hK
      have HNE := hid hne
      have HBL := hid hbl
      have HSL := hid hsl
      have HTR := hid htr
      have HS := hid hS
      clear hK hne hbl hsl htr hS hb hb2 hbk hk hlt2 ht
      go_wp2_with fail
      refine HS.out.mono ?_
      rintro e w5 ⟨rfl, hb5⟩
      have hz5 := hb5.size
      go_wp2_with (refine wpList_store_all rfl 24 _ _ rfl w5.heap.size _ rfl rfl _ _ (heap_alloc_new w5 _) 32 Tryd.sizeKey hKs rfl hK1 ?_; intro w6 hg6 hk6)
      have hb6 : Below w5.heap.size w5 w6 := ((Below.refl _ _).alloc (Nat.le_refl _) _).trans (hk6.below (by simp) fun j hj => by show ¬ j = _; omega)
      have hbr6 := below_step hb5 hb6 hz5
      obtain ⟨kb, hkb⟩ : ∃ kb, kb = w5.heap.size := ⟨_, rfl⟩
      rw [← hkb] at hg6 ⊢
      obtain ⟨C, hC⟩ : ∃ C, C = Held w kb K (.slice (some ⟨w.heap.size, 0, none⟩) k k) b := ⟨_, rfl⟩
      have hC0 : C w6 := by
        rw [hC]
        exact ⟨range_of hg6, HTR.out.old hbr6 HTR.out.pos, HSL.out.old hbr6, below_step hbel hbr6 hbel.size⟩
      have hCd : ∀ wy, C wy → C wy.drew := by rw [hC]; exact fun wy h => h.on ⟨rfl, rfl, rfl, Nat.le_refl _, fun _ _ => rfl⟩
      have hCo : ∀ wy wz, C wy → Below wy.heap.size wy wz → C wz := by rw [hC]; exact fun _ _ h hk => h.on hk
      have hCa : ∀ wy, C wy → wy.rangeAt kb 0 (Lib.byteCells K) := by rw [hC]; exact fun _ h => h.key
      have hCt : ∀ wy, C wy → Tab wy := by rw [hC]; exact fun _ h => h.tab
      have hCw : ∀ wy, C wy → Below w.heap.size w wy := by rw [hC]; exact fun _ h => h.below
      have hCv : ∀ wy, C wy → Sl wy (.slice (some ⟨w.heap.size, 0, none⟩) k k) (Lib.byteCells b) := by rw [hC]; exact fun _ h => h.arg
      have hia : (Tryd.prog.info? 24).map (·.size) = some (Lib.byteCells K).length := by rw [Lib.byteCells_length, hKl, Tryd.sizeKey]
      obtain ⟨i0, hi0, hi1, hi2, hi3⟩ := info_parts Tryd.info5
      have heq1 := run_eq_key Tryd.underlying24 Tryd.underlying5 hi0 cellsU8 K K hKl hKl
      rw [show (K == K) = true from by simp] at heq1
      obtain ⟨L, hL⟩ : ∃ L, L = Sha.sum (b ++ [i]) := ⟨_, rfl⟩
      have heq2 := run_eq_key Tryd.underlying24 Tryd.underlying5 hi0 cellsU8 K L hKl (by rw [hL, Sha.sum_length])
      rw [show (K == L) = false from by rw [HK.out, hL]; simpa using HNE.out] at heq2
      have HA := hid (show ∀ wy, C wy → Calls Tryd.prog 5 #[] wy fun e w' => e = .returned (.bool true) ∧ C w' from fun wy hy' => (awake_any wy (hCt wy hy')).mono fun e w' ⟨h1, h2⟩ => ⟨h1, hCo _ _ hy' h2⟩)
      have HS2 := hid (show ∀ wy, C wy → Calls Tryd.prog 8 #[.slice (some ⟨w.heap.size, 0, none⟩) k k] wy fun e w' => e = .returned (.agg (Lib.byteCells K).toArray) ∧ C w' from fun wy hy' => (RSum_any _ b (by rw [HBL.out]; omega) wy (hCv wy hy')).mono fun e w' ⟨h1, h2⟩ => ⟨by rw [HK.out]; exact h1, hCo _ _ hy' h2⟩)
      have HCD := hid hCd
      have HCA := hid hCa
      have HCW := hid hCw
      have HCT := hid hCt
      have HCO := hid hCo
      have HCV := hid hCv
      have HIA := hid hia
      have HLL := hid hL
      have HQ1 := hid heq1
      have HQ2 := hid heq2
      have hu := Tryd.underlying24
      clear hC hCd hCo hCa hCt hCw hCv hia hi0 hi1 hi2 hi3 hL heq1 heq2 hg6 hk6 hb6 hbr6 hb5 hz5 hbel hKs hK1 hKl hkb
      go_wp2
      refine wp_region_held_drew (S := C) (by kernel_rfl) (HCD.out _ hC0) (fun hH => ?_)
      clear hC0
      refine wpAnyH_ready (rs := [0]) (by kernel_rfl) (by simp) ?_
      refine AllReadyH.cons rfl (fun K' hK' => ?_) AllReadyH.nil
      go_simp
      refine (HA.out _ hH).mono ?_
      rintro e w7 ⟨rfl, hC7⟩
      refine hK'.out _ _ hC7 (fun _ => ?_)
      clear hK' hH
      refine wpAnyH_take (i := 1) (v := .bool true) rfl (by kernel_rfl) (by kernel_rfl) (by kernel_rfl) (fun _ _ _ h => h) (Or.inl ⟨by rfl, fun wz hz => ?_⟩) hC7 ?_
      · clear hz
        go_simp
      refine wpAnyH_take (i := 2) (v := .agg (Lib.byteCells K).toArray) rfl (by kernel_rfl) (by kernel_rfl) (by kernel_rfl) (fun _ _ _ h => h) (yieldsIf_load_mid (by rfl) _ _ rfl kb 0 rfl (Lib.byteCells K) _ HCA.out hu rfl HIA.out) hC7 ?_
      refine wpAnyH_take (i := 3) (v := .slice (some ⟨w.heap.size, 0, none⟩) k k) rfl (by kernel_rfl) (by kernel_rfl) (by kernel_rfl) (fun _ _ _ h => h) (Or.inl ⟨by rfl, fun wz hz => ?_⟩) hC7 ?_
      · clear hz
        go_simp
      refine wpAnyH_ready (rs := [4]) (by kernel_rfl) (by simp) ?_
      refine AllReadyH.cons rfl (fun K' hK' => ?_) AllReadyH.nil
      go_simp
      refine (HS2.out _ hC7).mono ?_
      rintro e w8 ⟨rfl, hC8⟩
      refine hK'.out _ _ hC8 (fun _ => ?_)
      clear hK' hC7
      have heq1 := HQ1.out
      refine wpAnyH_take (i := 5) (v := .bool true) rfl (by kernel_rfl) (by kernel_rfl) (by kernel_rfl) (fun _ _ _ h => h) (Or.inl ⟨by rfl, fun wz hz => ?_⟩) hC8 ?_
      · clear hz
        go_simp
      clear heq1
      refine wpAnyH_take (i := 6) (v := .bool true) rfl (by kernel_rfl) (by kernel_rfl) (by kernel_rfl) (fun _ _ _ h => h) (Or.inl ⟨by rfl, fun wz hz => ?_⟩) hC8 ?_
      · clear hz
        go_simp
      refine wpAnyH_take (i := 7) (v := .bool true) rfl (by kernel_rfl) (by kernel_rfl) (by kernel_rfl) (fun _ _ _ h => h) (Or.inl ⟨by rfl, fun wz hz => ?_⟩) hC8 ?_
      · clear hz
        go_simp
      refine wpAnyH_take (i := 8) (v := .agg (Lib.byteCells K).toArray) rfl (by kernel_rfl) (by kernel_rfl) (by kernel_rfl) (fun _ _ _ h => h) (yieldsIf_load_mid (by rfl) _ _ rfl kb 0 rfl (Lib.byteCells K) _ HCA.out hu rfl HIA.out) hC8 ?_
      refine wpAnyH_take (i := 9) (v := .slice (some ⟨w.heap.size, 0, none⟩) k k) rfl (by kernel_rfl) (by kernel_rfl) (by kernel_rfl) (fun _ _ _ h => h) (Or.inl ⟨by rfl, fun wz hz => ?_⟩) hC8 ?_
      · clear hz
        go_simp
      refine wpAnyH_take (i := 11) (v := .int .u8 (i.toNat : Int)) rfl (by kernel_rfl) (by kernel_rfl) (by kernel_rfl) (fun _ _ _ h => h) (Or.inl ⟨by rfl, fun wz hz => ?_⟩) hC8 ?_
      · clear hz
        go_simp
      refine wpAnyH_ready (rs := [10, 12]) (by kernel_rfl) (by simp) ?_
      have g1 : ([] : List UInt8).length + b.length ≤ 70368744177664 := by rw [HBL.out]; simp; omega
      have g2 : b.length + [i].length ≤ 70368744177664 := by rw [HBL.out]; simp; omega
      refine AllReadyH.cons rfl (fun K' hK' => ?_) (AllReadyH.cons rfl (fun K' hK' => ?_) AllReadyH.nil)
      · refine step_append_u8 (by rfl) (.const (.slice none 0 0)) (.tmp 38) rfl w8.heap.size (.slice none 0 0) [] rfl (World.ownsRow_nil _ _ _ _) _ b rfl (HCV.out _ hC8) g1 (Nat.le_refl _) ?_
        intro v9 w9 own9 bel9
        rw [List.nil_append] at own9
        have hC9 := HCO.out _ _ hC8 bel9
        refine hK'.out _ _ hC9 (fun _ => ?_)
        clear hK'
        refine wpAnyH_ready (rs := [12]) (by kernel_rfl) (by simp) ?_
        refine AllReadyH.cons rfl (fun K' hK' => ?_) AllReadyH.nil
        go_simp
        have hC10 := HCO.out _ _ hC9 ((Below.refl w9.heap.size w9).alloc (Nat.le_refl _) (.cells #[.int .u8 (i.toNat : Int)] 5))
        refine hK'.out _ _ hC10 (fun _ => ?_)
        clear hK'
        refine wpAnyH_ready (rs := [13]) (by kernel_rfl) (by simp) ?_
        refine AllReadyH.cons rfl (fun K' hK' => ?_) AllReadyH.nil
        have hsl : Sl (w9.alloc (.cells #[.int .u8 (i.toNat : Int)] 5)) (.slice (some ⟨w9.heap.size, 0, none⟩) 1 1) (Lib.byteCells [i]) := Sl.ofBlock (heap_alloc_new w9 _)
        refine step_append_u8 (by rfl) (.tmp 39) (.tmp 41) rfl w8.heap.size v9 b rfl (own9.alloc _) _ [i] rfl hsl g2 (by have := bel9.size; simp; omega) ?_
        intro v11 w11 own11 bel11
        have hC11 := HCO.out _ _ hC8 (show Below w8.heap.size w8 w11 from (bel9.alloc bel9.size _).trans bel11)
        refine hK'.out _ _ hC11 (fun _ => ?_)
        clear hK'
        have hS := Sum_any v11 (b ++ [i]) (by rw [List.length_append, HBL.out]; simp; omega) w11 (Sl.ofOwns own11) (HCT.out _ hC11)
        rw [← HLL.out] at hS
        have HS3 := hid hS
        clear hS own11 bel11
        refine wpAnyH_ready (rs := [14]) (by kernel_rfl) (by simp) ?_
        refine AllReadyH.cons rfl (fun K' hK' => ?_) AllReadyH.nil
        go_simp
        refine HS3.out.mono ?_
        rintro e w12 ⟨rfl, hb12⟩
        have hC12 := HCO.out _ _ hC11 hb12
        refine hK'.out _ _ hC12 (fun _ => ?_)
        clear hK' hC11 hb12
        have heq2 := HQ2.out
        refine wpAnyH_take (i := 15) (v := .bool true) rfl (by kernel_rfl) (by kernel_rfl) (by kernel_rfl) (fun _ _ _ h => h) (Or.inl ⟨by rfl, fun wz hz => ?_⟩) hC12 ?_
        · clear hz
          go_simp
        clear heq2
        refine wpAnyH_take (i := 16) (v := .bool true) rfl (by kernel_rfl) (by kernel_rfl) (by kernel_rfl) (fun _ _ _ h => h) (Or.inl ⟨by rfl, fun wz hz => ?_⟩) hC12 ?_
        · clear hz
          go_simp
        refine wpAnyH_take (i := 17) (v := .bool true) rfl (by kernel_rfl) (by kernel_rfl) (by kernel_rfl) (fun _ _ _ h => h) (Or.inl ⟨by rfl, fun wz hz => ?_⟩) hC12 ?_
        · clear hz
          go_simp
        refine wpAnyH_done (by kernel_rfl) ?_ _
        have hbel := HCW.out _ hC12
        clear hC12
        go_wp2
        go_ret
        exact ⟨rfl, hbel⟩
      · go_simp
        have hC9 := HCO.out _ _ hC8 ((Below.refl w8.heap.size w8).alloc (Nat.le_refl _) (.cells #[.int .u8 (i.toNat : Int)] 5))
        refine hK'.out _ _ hC9 (fun _ => ?_)
        clear hK'
        refine wpAnyH_ready (rs := [10]) (by kernel_rfl) (by simp) ?_
        refine AllReadyH.cons rfl (fun K' hK' => ?_) AllReadyH.nil
        have hsl : Sl (w8.alloc (.cells #[.int .u8 (i.toNat : Int)] 5)) (.slice (some ⟨w8.heap.size, 0, none⟩) 1 1) (Lib.byteCells [i]) := Sl.ofBlock (heap_alloc_new w8 _)
        refine step_append_u8 (by rfl) (.const (.slice none 0 0)) (.tmp 38) rfl (w8.heap.size + 1) (.slice none 0 0) [] rfl (World.ownsRow_nil _ _ _ _) _ b rfl (HCV.out _ hC9) g1 (by simp) ?_
        intro v9 w9 own9 bel9
        rw [List.nil_append] at own9
        have hz8 : (w8.alloc (.cells #[.int .u8 (i.toNat : Int)] 5)).heap.size = w8.heap.size + 1 := by simp
        have bel9' : Below (w8.alloc (.cells #[.int .u8 (i.toNat : Int)] 5)).heap.size (w8.alloc (.cells #[.int .u8 (i.toNat : Int)] 5)) w9 := by rw [hz8]; exact bel9
        have hC10 := HCO.out _ _ hC9 bel9'
        refine hK'.out _ _ hC10 (fun _ => ?_)
        clear hK'
        refine wpAnyH_ready (rs := [13]) (by kernel_rfl) (by simp) ?_
        refine AllReadyH.cons rfl (fun K' hK' => ?_) AllReadyH.nil
        refine step_append_u8 (by rfl) (.tmp 39) (.tmp 41) rfl (w8.heap.size + 1) v9 b rfl own9 _ [i] rfl (hsl.old bel9') g2 (by have := bel9'.size; omega) ?_
        intro v11 w11 own11 bel11
        have hC11 := HCO.out _ _ hC8 (show Below w8.heap.size w8 w11 from ((Below.refl w8.heap.size w8).alloc (Nat.le_refl _) _).trans ((bel9.trans bel11).mono (Nat.le_succ _)))
        refine hK'.out _ _ hC11 (fun _ => ?_)
        clear hK'
        have hS := Sum_any v11 (b ++ [i]) (by rw [List.length_append, HBL.out]; simp; omega) w11 (Sl.ofOwns own11) (HCT.out _ hC11)
        rw [← HLL.out] at hS
        have HS3 := hid hS
        clear hS own11 bel11
        refine wpAnyH_ready (rs := [14]) (by kernel_rfl) (by simp) ?_
        refine AllReadyH.cons rfl (fun K' hK' => ?_) AllReadyH.nil
        go_simp
        refine HS3.out.mono ?_
        rintro e w12 ⟨rfl, hb12⟩
        have hC12 := HCO.out _ _ hC11 hb12
        refine hK'.out _ _ hC12 (fun _ => ?_)
        clear hK' hC11 hb12
        have heq2 := HQ2.out
        refine wpAnyH_take (i := 15) (v := .bool true) rfl (by kernel_rfl) (by kernel_rfl) (by kernel_rfl) (fun _ _ _ h => h) (Or.inl ⟨by rfl, fun wz hz => ?_⟩) hC12 ?_
        · clear hz
          go_simp
        clear heq2
        refine wpAnyH_take (i := 16) (v := .bool true) rfl (by kernel_rfl) (by kernel_rfl) (by kernel_rfl) (fun _ _ _ h => h) (Or.inl ⟨by rfl, fun wz hz => ?_⟩) hC12 ?_
        · clear hz
          go_simp
        refine wpAnyH_take (i := 17) (v := .bool true) rfl (by kernel_rfl) (by kernel_rfl) (by kernel_rfl) (fun _ _ _ h => h) (Or.inl ⟨by rfl, fun wz hz => ?_⟩) hC12 ?_
        · clear hz
          go_simp
        refine wpAnyH_done (by kernel_rfl) ?_ _
        have hbel := HCW.out _ hC12
        clear hC12
        go_wp2
        go_ret
        exact ⟨rfl, hbel⟩

theorem own : ownKnob Tryd.prog.godebug = none := by kernel_rfl
theorem laidOut : laidOutB Tryd.prog = true := by kernel_rfl
theorem laid_met (os : Os) : laidMet Tryd.prog Rows.digestLongRow.laid ((laidWorld os).forCall (fun _ _ => 0) ⟨#[], #[.int .i64 0, .int .u8 0], []⟩).memory :=
  laidMet_of_run' 8 (by kernel_rfl) (by kernel_rfl)
theorem reads (os : Os) {H : Type} (enc : TypeId × Value → H) : ∃ places, DataW.whole enc Tryd.prog ((laidWorld os).forCall (fun _ _ => 0) ⟨#[], #[.int .i64 0, .int .u8 0], []⟩).memory Tryd.f4.params.toList Rows.digestLongSpec.vars false (#[.int .i64 0, .int .u8 0] : Array Value).toList 8 = some ([.lit (.int .i64 0), .lit (.int .u8 0)], [], places) :=
  ⟨[], by kernel_rfl⟩

theorem contract (H : Type) (enc : TypeId × Value → H) (W : World) (base : Nat) (args : Array Value) (ds gs : List (DataW H)) (before : List MemPlace)
    (hval : ∀ (j : Nat) t v, Tryd.f4.params[j]? = some t → args[j]? = some v → Value.okWide Tryd.prog W .any base t v)
    (hW : DataW.Whole enc Tryd.prog Tryd.f4.params.toList Rows.digestLongSpec.vars false W args.toList ds gs before) (hL : laidMetH Tryd.prog Rows.digestLongRow.laid W) :
    Calls Tryd.prog 4 args W fun e W' => ∃ v, e = .returned v ∧ Rows.digestLongSpec.post enc Tryd.prog Tryd.f4 false true false false W args v W' := by
  have hW' := hW
  obtain ⟨p, q, hA0, hV, rfl, hfz, hnd⟩ := hW
  have hA : DataW.TrodAll enc Tryd.prog W 0 (fun _ => true) true Tryd.f4.params.toList args.toList ds p := hA0
  rw [Tryd.params4] at hA hval
  obtain ⟨v0, vs0, d0, ds0, p0, q0, hargs, rfl, rfl, h0, r0⟩ := trodAll_cons hA
  obtain ⟨v1, vs1, d1, ds1, p1, q1, rfl, rfl, rfl, h1, r1⟩ := trodAll_cons r0
  obtain ⟨rfl, rfl, rfl⟩ := trodAll_nil r1
  obtain rfl : args = #[v0, v1] := by cases args; simp_all
  obtain ⟨rfl, rfl⟩ := trodVars_none hV
  have k0 := h0
  have lt0 : ∀ x ∈ p0, x.block < W.heap.size := by obtain ⟨m, hm⟩ := k0; exact DataW.trod_lt m _ _ _ hm
  obtain ⟨a0, rfl, _, _, w0⟩ := open_int Tryd.underlying3 (hval 0 3 v0 rfl rfl) h0
  have k1 := h1
  have lt1 : ∀ x ∈ p1, x.block < W.heap.size := by obtain ⟨m, hm⟩ := k1; exact DataW.trod_lt m _ _ _ hm
  obtain ⟨a1, rfl, _, _, w1⟩ := open_int Tryd.underlying5 (hval 1 5 v1 rfl rfl) h1
  clear hA0
  refine (walk a0 a1 W w0 w1 (Tab_of hL)).mono fun e W' ⟨he, bel⟩ => ?_
  subst he
  exact ⟨_, rfl, _, _, _, [], _, [], hW', trodAll_mk1 (shut_bool Tryd.underlying4 _), (trodAll_cons_mk (Below.trod laidOut (by kernel_rfl) (of_decide_eq_true (by kernel_rfl)) k0 bel lt0) (trodAll_cons_mk (Below.trod laidOut (by kernel_rfl) (of_decide_eq_true (by kernel_rfl)) k1 bel lt1) trodAll_mk0)), rfl, bel.frame _, fun h => by cases h⟩

set_option maxRecDepth 100000 in
theorem lifted (os : Os) (started : os.Started) (H : Type) (enc : TypeId × Value → H) (F : Stop.Interp) :
    ReturnsInHanded {} Tryd.checked os 4 .any ((OpenSpec.ofChange Rows.digestLongSpec).preRow enc Tryd.prog Tryd.f4 Rows.digestLongRow.domain false Rows.digestLongRow.laid) (((OpenSpec.ofChange Rows.digestLongSpec).at F).post enc Tryd.prog Tryd.f4 false true false false) := by
  obtain ⟨places, hx⟩ := reads os enc
  refine returnsInHanded_of_row (C := Tryd.checked) (s := OpenSpec.ofChange Rows.digestLongSpec) own started (by kernel_rfl) Tryd.func4
    (witness_row_at (enc := enc) (C := Tryd.checked) false (laidWorld os) #[.int .i64 0, .int .u8 0] rfl (by kernel_rfl) (by kernel_rfl) (by kernel_rfl)
      (OpenSpec.preRow_of_cond 8 hx (by kernel_rfl) (fun k hk => by cases hk) (by kernel_rfl) (laid_met os))) ?_
  intro W base args ds gs before hval hW _ _ _ hL _ _
  exact contract H enc W base args ds gs before hval hW hL

theorem said : Rows.DigestLongSaid :=
  OpenClaim.holds_of_cond 4 Tryd.f4 rfl rfl rfl rfl rfl rfl rfl ⟨rfl, rfl, rfl, rfl, rfl⟩ rfl rfl rfl rfl rfl (by kernel_rfl) Tryd.func4 (by kernel_rfl)
    (of_decide_eq_true (by kernel_rfl)) (by unfold Func.isWrapper; first | (rw [if_pos (by decide +kernel)]; kernel_rfl) | (rw [if_neg (by decide +kernel)]; exact ⟨rfl, rfl⟩))
    (fun os started H enc _ F => by rw [OpenClaim.pre_eq_preRow]; exact lifted os started H enc F)

theorem plain (f : FuncId) (fn : Func) (hf : Tryd.pinned.checked.prog.funcNamed "rick/ricklaw02.DigestLong" = some f) (hfn : Tryd.pinned.checked.prog.funcs[f]? = some fn) :
    false = Tryd.pinned.checked.prog.looks [] ∧ ∀ (j : Nat) t, fn.params[j]? = some t → Tryd.pinned.checked.prog.wantsStandIn t = false := by
  obtain rfl : f = 4 := Option.some.inj ((show Tryd.prog.funcNamed "rick/ricklaw02.DigestLong" = some 4 by kernel_rfl).symm.trans hf) |>.symm
  obtain rfl : fn = Tryd.f4 := (Option.some.inj (Tryd.func4.symm.trans hfn)).symm
  refine ⟨by kernel_rfl, fun j t ht => ?_⟩
  rw [Tryd.params4] at ht
  have hm := Array.mem_of_getElem? ht
  simp only [List.mem_toArray, List.mem_cons, List.not_mem_nil, or_false] at hm
  rcases hm with rfl | rfl
  · exact (show Tryd.prog.wantsStandIn 3 = false by kernel_rfl)
  · exact (show Tryd.prog.wantsStandIn 5 = false by kernel_rfl)

/-- The statement: its tied card. -/
theorem proved : Rows.DigestLongCardSaid :=
  Claim7.holds_tied_plain_at .later [] _ _ _ _ said (fun _ h => by cases h) (by kernel_rfl) (fun _ h => by cases h) digestLong_row_tie rfl ⟨rfl, rfl⟩ (by kernel_rfl) rfl plain (by kernel_rfl)
#print axioms proved
