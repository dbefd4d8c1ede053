/-
  Package digest: Sum is the name of the bytes, as plain mathematics tells it.
-/
import Derived.Test.YtjnhgoedhggocaaDoorDigC
namespace Go.Proofs.YtjnhgoedhggocaaDoor
open Go.RowKit

theorem begin_lit : ((Sha.begin Sha.u32).list.map W32).toArray = #[.int .u32 1779033703, .int .u32 3144134277, .int .u32 1013904242, .int .u32 2773480762, .int .u32 1359893119, .int .u32 2600822924, .int .u32 528734635, .int .u32 1541459225] := by
  simp [Sha.begin, Sha.St.list, W32, Sha.u32_con]

set_option maxRecDepth 100000 in
set_option maxHeartbeats 1000000 in
theorem start_any (w : World) :
    Calls Tryd.prog 30 #[] w fun e w' => e = .returned (.agg ((Sha.begin Sha.u32).list.map W32).toArray) ∧ Below w.heap.size w w' := by
  rw [begin_lit]
  go_enter Tryd.func30, Tryd.ntmps30
  go_wp2
  exact bodyPost_ret (results_cell_row rfl _ _ w.heap.size _ _ _ _ rfl (heap_alloc_new w _) Tryd.underlying59 rfl Tryd.sizeSt) rfl ⟨rfl, (Below.refl _ _).alloc (Nat.le_refl _) _⟩

/-- Whole blocks, and what is left with what stands behind. -/
theorem sha_parts (l : List UInt8) (q : Nat) (hq : q = l.length / 64) :
    Sha.sha Sha.u32 (l.map Sha.inn) = Sha.blocks Sha.u32 (((l.drop (64 * q)) ++ tailB (l.drop (64 * q)).length l.length).length / 64) (Sha.blocks Sha.u32 q (Sha.begin Sha.u32) ((l.take (64 * q)).map Sha.inn)) (((l.drop (64 * q)) ++ tailB (l.drop (64 * q)).length l.length).map Sha.inn) := by
  have hd : (l.drop (64 * q)).length = l.length - 64 * q := List.length_drop
  have ht : (l.take (64 * q)).length = 64 * q := by rw [List.length_take]; omega
  unfold Sha.sha
  rw [List.map_append, tail_inn _ _ (by rw [hd]; omega), List.length_map]
  rw [show l.map Sha.inn = (l.take (64 * q)).map Sha.inn ++ (l.drop (64 * q)).map Sha.inn by rw [← List.map_append, List.take_append_drop], List.append_assoc]
  rw [show (l.length + 72) / 64 = q + (l.drop (64 * q) ++ tailB (l.drop (64 * q)).length l.length).length / 64 by
    rw [List.length_append, tailB_length, hd]
    unfold Sha.zeros
    omega]
  exact Sha.blocks_add Sha.u32 _ _ _ _ _ (by rw [List.length_map, ht])

theorem Sl.dropped {w : World} {a : Option Addr} {n cap : Nat} {cs : List Value} (h : Sl w (.slice a n cap) cs) (i : Nat) (hi : i ≤ cs.length) : Sl w (.slice (if cap = i then a else a.map (·.add i)) (cs.length - i) (cap - i)) (cs.drop i) := by
  have hcap := h.cap
  obtain ⟨_, _, hv, hn, _, hc⟩ := h
  obtain ⟨rfl, _, rfl⟩ := Value.slice.inj hv
  refine ⟨_, cap - i, by rw [List.length_drop], fun h => ?_, by rw [List.length_drop]; omega, fun a' ha k u hu => ?_⟩
  · have : a = none := by
      split at h
      · exact h
      · simpa using h
    simp [hn this]
  · rw [List.getElem?_drop] at hu
    have hlt := (List.getElem?_eq_some_iff.1 hu).1
    rw [if_neg (by omega)] at ha
    cases a with
    | none => cases ha
    | some b =>
      cases ha
      rw [addr_add_add]
      exact hc b rfl _ u hu
theorem Sl.taken {w : World} {a : Option Addr} {n cap : Nat} {cs : List Value} (h : Sl w (.slice a n cap) cs) (i : Nat) (hi : i ≤ cs.length) : Sl w (.slice a i cap) (cs.take i) := by
  have hcap := h.cap
  obtain ⟨_, _, hv, hn, _, hc⟩ := h
  obtain ⟨rfl, _, rfl⟩ := Value.slice.inj hv
  refine ⟨a, cap, by rw [List.length_take, Nat.min_eq_left hi], fun h => by simp [hn h], by rw [List.length_take]; omega, fun a' ha k u hu => ?_⟩
  rw [List.getElem?_take] at hu
  split at hu
  · exact hc a' ha k u hu
  · cases hu

set_option maxRecDepth 100000 in
set_option maxHeartbeats 2000000 in
theorem Sum_any (v : Value) (bs : List UInt8) (hlen : bs.length ≤ 1125899906842624) (w : World) (hv : Sl w v (Lib.byteCells bs)) (ht : Tab w) :
    Calls Tryd.prog 21 #[v] w fun e w' => e = .returned (.agg (Lib.byteCells (Sha.sum bs)).toArray) ∧ Below w.heap.size w w' := by
  obtain ⟨ao, cap, rfl⟩ := hv.form
  rw [Lib.byteCells_length] at hv ⊢
  have hcap := hv.cap
  rw [Lib.byteCells_length] at hcap
  obtain ⟨q, hq⟩ : ∃ q, q = bs.length / 64 := ⟨_, rfl⟩
  have hwh : (bs.length : Int) - (bs.length : Int) % 64 = 64 * (q : Int) := by omega
  have HQ := hid hq
  have i1 : 64 * (q : Int) ≤ (bs.length : Int) := by omega
  have i0 : (0 : Int) ≤ (q : Int) := Int.natCast_nonneg _
  have i2 : 64 * (q : Int) ≤ (cap : Int) := by omega
  clear hq
  go_enter Tryd.func21, Tryd.ntmps21
  go_wp2_with fail
  refine (start_any _).mono ?_
  rintro e w1 ⟨rfl, hb1⟩
  have hr1 := (hb1.block w.heap.size (by simp)).trans (heap_alloc_new w _)
  have hz1 := hb1.size
  rw [World.size_alloc] at hz1
  have hbw1 : Below w.heap.size w w1 := below_step ((Below.refl _ _).alloc (Nat.le_refl _) _) hb1 (by simp)
  clear hb1
  go_wp2_with (refine wpList_store_all rfl 59 _ _ rfl w1.heap.size _ rfl rfl _ _ (heap_alloc_new w1 _) 8 Tryd.sizeSt (by rw [cells32_size, list8]) rfl (cells32_one _) ?_; intro w2 hg2 hk2)
  have hz2 := hk2.size
  rw [World.size_alloc] at hz2
  have hr2 := (hk2.block w.heap.size (by simp; omega) (by show ¬ _ = w1.heap.size; omega)).trans ((heap_alloc_old w1 _ (by omega)).trans hr1)
  have hbw2 : Below w.heap.size w w2 := (hbw1.alloc (by omega) _).trans (hk2.below (by simp; omega) fun k hk => by show ¬ k = _; omega)
  clear hk2 hbw1 hr1
  have ht2 := ht.old hbw2 ht.pos
  have htl : (bs.take (64 * q)).length = 64 * q := by rw [List.length_take]; omega
  have hdl : (bs.drop (64 * q)).length = bs.length - 64 * q := List.length_drop
  have htk := (hv.old hbw2).taken (64 * q) (by rw [Lib.byteCells_length]; omega)
  rw [← byteCells_take] at htk
  have hne : 0 < (bs.take (64 * q)).length → ∀ a n c, Value.slice ao (64 * q) cap = .slice (some a) n c → a.block ≠ w1.heap.size := by
    intro hp a n c e
    cases e
    have := hv.lt (i := 0) (by rw [Lib.byteCells_length]; omega)
    omega
  refine (addAll_any w1.heap.size _ _ (bs.take (64 * q)) (by omega) w2 htk hne ht2 (by omega) hg2).mono ?_
  rw [show (bs.take (64 * q)).length / 64 = q by omega]
  rintro e w3 ⟨rfl, hs3, hk3⟩
  have hbw3 : Below w.heap.size w w3 := hbw2.trans (hk3.below (by omega) fun k hk => by show ¬ k = _; omega)
  have hr3 := (hk3.block w.heap.size (by omega) (by show ¬ _ = w1.heap.size; omega)).trans hr2
  have hz3 := hk3.size
  have hd := (hv.old hbw3).dropped (64 * q) (by rw [Lib.byteCells_length]; omega)
  rw [Lib.byteCells_length, ← byteCells_drop] at hd
  clear hne htk ht2 hk3 hr2 hg2
  have hlast : ∀ v' , Sl w3 v' (Lib.byteCells (bs.drop (64 * q))) → Calls Tryd.prog 32 #[v', .int .u64 (bs.length : Int)] w3 fun e w4 => ∃ x c, e = .returned (.slice (some x) ((bs.drop (64 * q)).length + 1 + Sha.zeros (bs.drop (64 * q)).length + 8) c) ∧ w3.heap.size ≤ x.block ∧ Sl w4 (.slice (some x) ((bs.drop (64 * q)).length + 1 + Sha.zeros (bs.drop (64 * q)).length + 8) c) (Lib.byteCells (bs.drop (64 * q) ++ tailB (bs.drop (64 * q)).length bs.length)) ∧ Below w3.heap.size w3 w4 := by
    intro v' hv'
    have hq := HQ.out
    refine (ending_any v' _ bs.length (by rw [hdl]; omega) hlen w3 hv').mono ?_
    rintro e w4 ⟨v4, rfl, hown, hb4⟩
    have hS := Sl.ofOwns hown
    rcases hown.2 with ⟨rfl, h0⟩ | ⟨g, c, cur, rfl, hg, _⟩
    · simp at h0
    · exact ⟨_, c, rfl, hg, hS, hb4⟩
  have hr3z : w3.heap[w.heap.size]? = some (.cells (Lib.byteCells (List.replicate 32 0)).toArray 47 (0, 0)) := hr3
  have hK1 : (Lib.byteCells (Sha.sum bs)).toArray.all (·.oneCell') = true := by
    rw [Array.all_eq_true_iff_forall_mem]
    intro v hv
    exact byte_one _ v (by simpa using hv)
  have hKs : (Lib.byteCells (Sha.sum bs)).toArray.size = 32 := by rw [List.size_toArray, Lib.byteCells_length, Sha.sum_length]
  have hKi : (Tryd.prog.info? 47).map (·.size) = some (Lib.byteCells (Sha.sum bs)).toArray.size := by rw [hKs, Tryd.sizeKey]
  obtain ⟨T, hT⟩ : ∃ T, T = bs.drop (64 * q) ++ tailB (bs.drop (64 * q)).length bs.length := ⟨_, rfl⟩
  obtain ⟨n4, hn4⟩ : ∃ n4, n4 = (bs.drop (64 * q)).length + 1 + Sha.zeros (bs.drop (64 * q)).length + 8 := ⟨_, rfl⟩
  rw [← hT, ← hn4] at hlast
  have hTl : T.length ≤ 1125899906842624 := by
    rw [hT, List.length_append, tailB_length, hdl]
    have hq := HQ.out
    unfold Sha.zeros
    omega
  have hsha := hid (sha_parts bs q HQ.out)
  rw [← hT] at hsha
  have HT := hid hT
  have HN4 := hid hn4
  clear hr3 hT hn4
  by_cases hcq : cap = 64 * q
  · subst hcq
    rw [if_pos rfl, Nat.sub_self, show bs.length - 64 * q = 0 by omega] at hd
    have h3 := hlast _ hd
    clear hlast hd
    go_wp2_with fail
    with_reducible refine h3.mono ?_
    clear h3
    rintro e w4 ⟨x, c, rfl, hx, hS4, hb4⟩
    have hbw4 := below_step hbw3 hb4 (by omega)
    have hs4 : StAt w4 w1.heap.size _ := (hb4.block _ (by omega)).trans hs3
    have hr4 := (hb4.block w.heap.size (by omega)).trans hr3z
    have ht4 := ht.old hbw4 ht.pos
    have hz4 := hb4.size
    have hne4 : 0 < T.length → ∀ a n c', Value.slice (some x) n4 c = .slice (some a) n c' → a.block ≠ w1.heap.size := by
      intro _ a n c' e
      cases e
      omega
    clear hb4 hs3 hr3z hbw3 hv ht hbw2
    go_wp2_with fail
    refine (addAll_any w1.heap.size _ _ T hTl w4 hS4 hne4 ht4 (by omega) hs4).mono ?_
    rw [← hsha.out]
    rintro e w5 ⟨rfl, hs5, hk5⟩
    have hbw5 : Below w.heap.size w w5 := hbw4.trans (hk5.below (by omega) fun k hk => by show ¬ k = _; omega)
    have hr5 := (hk5.block w.heap.size (by omega) (by show ¬ _ = w1.heap.size; omega)).trans hr4
    have hz5 := hk5.size
    clear hk5 hs4 hne4 hS4 hr4 hbw4 ht4
    go_wp2_with fail
    refine (key_any w1.heap.size _ w5 hs5).mono ?_
    rintro e w6 ⟨rfl, hb6⟩
    have hbw6 := below_step hbw5 hb6 (by omega)
    have hr6 := (hb6.block w.heap.size (by omega)).trans hr5
    have hz6 := hb6.size
    clear hb6 hr5 hbw5 hs5
    go_wp2_with (refine wpList_store_all rfl 47 _ _ rfl w.heap.size _ rfl rfl _ _ hr6 32 Tryd.sizeKey hKs (by rw [List.size_toArray, Lib.byteCells_length, List.length_replicate]) hK1 ?_; intro w9 hg9 hk9)
    have hb9 : Below w.heap.size w w9 := hbw6.trans (hk9.below (by omega) fun k hk => by show ¬ k = _; omega)
    exact bodyPost_ret (results_cell_row rfl _ _ w.heap.size _ _ _ _ rfl hg9 Tryd.underlying47 rfl hKi) rfl ⟨rfl, hb9⟩
  · rw [if_neg hcq] at hd
    have h3 := hlast _ hd
    clear hlast hd
    go_wp2_with fail
    with_reducible refine h3.mono ?_
    clear h3
    rintro e w4 ⟨x, c, rfl, hx, hS4, hb4⟩
    have hbw4 := below_step hbw3 hb4 (by omega)
    have hs4 : StAt w4 w1.heap.size _ := (hb4.block _ (by omega)).trans hs3
    have hr4 := (hb4.block w.heap.size (by omega)).trans hr3z
    have ht4 := ht.old hbw4 ht.pos
    have hz4 := hb4.size
    have hne4 : 0 < T.length → ∀ a n c', Value.slice (some x) n4 c = .slice (some a) n c' → a.block ≠ w1.heap.size := by
      intro _ a n c' e
      cases e
      omega
    clear hb4 hs3 hr3z hbw3 hv ht hbw2
    go_wp2_with fail
    refine (addAll_any w1.heap.size _ _ T hTl w4 hS4 hne4 ht4 (by omega) hs4).mono ?_
    rw [← hsha.out]
    rintro e w5 ⟨rfl, hs5, hk5⟩
    have hbw5 : Below w.heap.size w w5 := hbw4.trans (hk5.below (by omega) fun k hk => by show ¬ k = _; omega)
    have hr5 := (hk5.block w.heap.size (by omega) (by show ¬ _ = w1.heap.size; omega)).trans hr4
    have hz5 := hk5.size
    clear hk5 hs4 hne4 hS4 hr4 hbw4 ht4
    go_wp2_with fail
    refine (key_any w1.heap.size _ w5 hs5).mono ?_
    rintro e w6 ⟨rfl, hb6⟩
    have hbw6 := below_step hbw5 hb6 (by omega)
    have hr6 := (hb6.block w.heap.size (by omega)).trans hr5
    have hz6 := hb6.size
    clear hb6 hr5 hbw5 hs5
    go_wp2_with (refine wpList_store_all rfl 47 _ _ rfl w.heap.size _ rfl rfl _ _ hr6 32 Tryd.sizeKey hKs (by rw [List.size_toArray, Lib.byteCells_length, List.length_replicate]) hK1 ?_; intro w9 hg9 hk9)
    have hb9 : Below w.heap.size w w9 := hbw6.trans (hk9.below (by omega) fun k hk => by show ¬ k = _; omega)
    exact bodyPost_ret (results_cell_row rfl _ _ w.heap.size _ _ _ _ rfl hg9 Tryd.underlying47 rfl hKi) rfl ⟨rfl, hb9⟩
end Go.Proofs.YtjnhgoedhggocaaDoor
