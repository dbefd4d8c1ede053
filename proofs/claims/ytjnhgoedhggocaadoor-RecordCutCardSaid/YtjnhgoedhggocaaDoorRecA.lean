/-
  Package record: Sum, Frame.
-/
import Derived.Test.YtjnhgoedhggocaaDoorDigD
import Derived.Test.YtjnhgoedhggocaaDoorOctBy
import Derived.Test.YtjnhgoedhggocaaDoorScanM
import Derived.Test.YtjnhgoedhggocaaDoorOctRd
import Derived.Test.YtjnhgoedhggocaaDoorSlB
namespace Go.Proofs.YtjnhgoedhggocaaDoor
open Go.RowKit

theorem or_step32 (a b k : Nat) (ha : a < 2 ^ (8 * k)) (hb : b < 256) (hk : k < 4) :
    bits .or .u32 (a : Int) (IntKind.u32.wrap (IntKind.u32.wrap (b : Int) * 2 ^ (8 * k))) = ((a + b * 2 ^ (8 * k) : Nat) : Int) := by
  have hp : (2 : Nat) ^ (8 * k) ≤ 2 ^ 24 := Nat.pow_le_pow_right (by omega) (by omega)
  have h24 : (2 : Nat) ^ 24 = 16777216 := by decide
  have hbp : b * 2 ^ (8 * k) < 4294967296 := by
    have : b * 2 ^ (8 * k) ≤ 255 * 2 ^ 24 := Nat.mul_le_mul (by omega) hp
    omega
  have e1 : IntKind.u32.wrap (b : Int) = (b : Int) := by rw [IntKind.wrap_u32]; omega
  have e2 : (b : Int) * 2 ^ (8 * k) = ((b * 2 ^ (8 * k) : Nat) : Int) := by simp
  have e3 : IntKind.u32.wrap ((b * 2 ^ (8 * k) : Nat) : Int) = ((b * 2 ^ (8 * k) : Nat) : Int) := by rw [IntKind.wrap_u32]; omega
  rw [e1, e2, e3, u32_or_nat _ _ (by omega) hbp, Nat.or_comm, nat_join (8 * k) _ _ (Nat.mul_mod_left _ _) ha, Nat.add_comm]

theorem owns_le {w : World} {base base' size n : Nat} {e : TypeId} {v : Value} {xs : List Value} (h : w.ownsRow base e size v n xs) (hb : base' ≤ base) : w.ownsRow base' e size v n xs :=
  ⟨h.1, h.2.elim Or.inl (fun ⟨g, cap, cur, hv, hg, r⟩ => Or.inr ⟨g, cap, cur, hv, Nat.le_trans hb hg, r⟩)⟩

set_option maxRecDepth 100000 in
set_option maxHeartbeats 2000000 in
theorem PSum32_any (v : Value) (bs : List UInt8) (hlen : bs.length ≤ 70368744177664) (w : World) (hv : Sl w v (Lib.byteCells bs)) (ht : Tab w) :
    Calls Tryd.prog 11 #[v] w fun e w' => e = .returned (.int .u32 (sum32 bs : Int)) ∧ Below w.heap.size w w' := by
  unfold sum32
  obtain ⟨K, hK⟩ : ∃ K, Sha.sum bs = K := ⟨_, rfl⟩
  have hKl := Sha.sum_length bs
  rw [hK] at hKl ⊢
  have hKs : (Lib.byteCells K).toArray.size = 32 := by rw [List.size_toArray, Lib.byteCells_length, hKl]
  have hK1 : (Lib.byteCells K).toArray.all (·.oneCell') = true := by
    rw [Array.all_eq_true]
    intro i hi
    simp [Lib.byteCells, Value.oneCell']
  have hKc : ∀ (i : Nat) (b : UInt8), K[i]? = some b → (Lib.byteCells K).toArray[i]? = some (Value.int .u8 (b.toNat : Int)) := by
    intro i b hb
    simp [Lib.byteCells, hb]
  go_enter Tryd.func11, Tryd.ntmps11
  go_wp2_with fail
  refine (Sum_any v bs (by omega) w hv ht).mono ?_
  rintro e w1 ⟨rfl, hb1⟩
  rw [hK]
  have hz1 := hb1.size
  go_wp2_with (refine wpList_store_all rfl 47 _ _ rfl w1.heap.size _ rfl rfl _ _ (heap_alloc_new w1 _) 32 Tryd.sizeKey hKs rfl hK1 ?_; intro w2 hg2 hk2)
  have hz2 := hk2.size
  rw [World.size_alloc] at hz2
  have hb2 : Below w.heap.size w w2 := (hb1.alloc hz1 _).trans (hk2.below (by simp; omega) fun k hk => by show ¬ k = _; omega)
  have hcells : ∀ j b, K[j]? = some b → w2.cell? ⟨w1.heap.size, j, none⟩ = some (.int .u8 (b.toNat : Int)) := fun j b hb => blk_cell hg2 (hKc j b hb)
  have HC := hid hcells
  have HKL := hid hKl
  have HKT := hid (List.take_length (l := K))
  clear hcells hg2 hk2 hb1 hKs hK1 hKc hKl hK hv ht hz2
  go_loop [3, 11] (fun x i => ∃ k : Nat, k ≤ 4 ∧ i = .int .i64 k ∧ x = .int .u32 (numOf (K.take k) : Nat)) (fun _ i => 4 - (intOf i).toNat)
  case atStart => exact ⟨0, Nat.zero_le _, rfl, rfl⟩
  case round =>
    obtain ⟨k, hk, rfl, rfl⟩ := hrel
    by_cases hlt : k < 4
    · obtain ⟨b, hb⟩ : ∃ b, K[k]? = some b := ⟨_, List.getElem?_eq_getElem (by rw [HKL.out]; omega)⟩
      have hcell := HC.out k b hb
      have hwr : IntKind.i64.wrap (8 * (k : Int)) = 8 * (k : Int) := IntWalk.i64_in _ (by omega)
      have h80 : (0 : Int) ≤ 8 * (k : Int) := by omega
      have h81 : (8 : Int) * (k : Int) ≤ 64 := by omega
      have h82 : (8 * (k : Int)).toNat = 8 * k := by omega
      have h2 : (K.take k).length = k := by rw [List.length_take, HKL.out]; omega
      have hor := or_step32 (numOf (K.take k)) b.toNat k (by
        have h1 := numOf_lt (K.take k)
        rwa [h2] at h1) b.toNat_lt (by omega)
      have hs2 := numOf_snoc (K.take k) b
      rw [h2, ← take_snoc hb] at hs2
      rw [← hs2, IntKind.wrap_u32', IntKind.wrap_u32'] at hor
      have HO := hid hor
      clear hor hs2 h2 hb
      go_wp2
      go_round
      case rel => exact ⟨k + 1, by omega, by go_num, by rw [HO.out]⟩
      case measure => simp [intOf]; omega
    · obtain rfl : k = 4 := by omega
      go_wp2
      go_ret
      exact ⟨rfl, hb2⟩

set_option maxRecDepth 100000 in
set_option maxHeartbeats 2000000 in
theorem PFrame_any (v : Value) (bs : List UInt8) (hlen : bs.length + 16 ≤ 70368744177664) (w : World) (hv : Sl w v (Lib.byteCells bs)) (ht : Tab w) :
    Calls Tryd.prog 14 #[v] w fun e w' => ∃ v', e = .returned v' ∧ w'.ownsRow w.heap.size 5 1 v' (8 + bs.length) (Lib.byteCells (frameOf bs)) ∧ Below w.heap.size w w' := by
  obtain ⟨i0, hi0, hi1, hi2, hi3⟩ := info_parts Tryd.info5
  have hbl := hid (Lib.byteCells_length bs)
  have hs32 := sum32_lt bs
  have hw1 : IntKind.u64.wrap (bs.length : Int) = (bs.length : Int) := by rw [IntKind.wrap_u64]; omega
  obtain ⟨ao, cap, hvf⟩ := hv.form
  subst hvf
  rw [hbl.out] at hv ⊢
  go_enter Tryd.func14, Tryd.ntmps14
  go_wp2_with fail
  have hW : Wr (w.alloc (.cells #[.slice none 0 0] 51)) w.heap.size w.heap.size (.slice none 0 0) [] := ⟨heap_alloc_new w _, World.ownsRow_nil _ _ _ _⟩
  refine (Num_any w.heap.size w.heap.size _ _ (bs.length : Int) 4 (by omega) _ hW (by simp) (by simp)).mono ?_
  rintro e w1 ⟨rfl, v1, hW1, hf1⟩
  rw [show heldN 4 = 4 from rfl, List.nil_append, Int.toNat_natCast] at hW1
  have hb1 : Below w.heap.size w w1 := ((Below.refl _ _).alloc (Nat.le_refl _) _).trans (hf1.keep.below (by simp) fun k hk => by simp [Value.ownBlock]; omega)
  have hz1 := hb1.size
  have hL1 := lowBytes_length bs.length 4
  have hL2 := lowBytes_length (sum32 bs) 4
  clear hW hf1
  go_wp2_with fail
  refine (PSum32_any _ bs (by omega) w1 (Sl.old hv hb1) (ht.old hb1 ht.pos)).mono ?_
  rintro e w2 ⟨rfl, hb2⟩
  have hz2 := hb2.size
  have hW2 : Wr w2 w.heap.size w.heap.size v1 (lowBytes bs.length 4) := ⟨(hb2.block _ (lt_of_block hW1.block)).trans hW1.block, ((Keep.ofBelow (S := fun _ => False) hb2).owns hW1.own fun _ _ h => h)⟩
  clear hW1
  go_wp2_with fail
  refine (Num_any w.heap.size w.heap.size _ _ (sum32 bs : Int) 4 (by omega) w2 hW2 (by omega) (by rw [hL1]; omega)).mono ?_
  rintro e w3 ⟨rfl, v3, hW3, hf3⟩
  rw [show heldN 4 = 4 from rfl, Int.toNat_natCast] at hW3
  have hb3 : Below w.heap.size w w3 := (below_step hb1 hb2 hz1).trans (hf3.keep.below (by omega) fun k hk => by
    rintro (e | e)
    · omega
    · have := (hW2.own.lt k e).1
      omega)
  have hz3 := hb3.size
  clear hf3 hW2
  go_wp2_with fail
  refine (Bytes_any _ _ _ _ w3 hW3 (by rw [List.length_append, hL1, hL2]; omega)).mono ?_
  rintro e w4 ⟨v4, rfl, hown4, hb4⟩
  rw [List.length_append, hL1, hL2] at hown4
  have hz4 := hb4.size
  have hb14 := below_step hb3 hb4 hz3
  have g3 : 4 + 4 + bs.length ≤ maxLen := by unfold maxLen; omega
  have g4 : (4 + 4 + bs.length) * 1 ≤ 140737488355328 := by omega
  have hvo := Sl.old hv hb14
  clear hW3
  go_wp2_with (refine wpList_append_any _ rfl (.tmp 17) (.tmp 18) _ _ rfl w3.heap.size 5 i0 _ 1 1 Tryd.underlying22 hi0 hi1 hi2 hi3 rfl (by omega) v4 _ _ rfl hown4 _ _ _ rfl (hvo.src Tryd.underlying22 (byte_one _)) (by rw [hbl.out]; exact g3) (by rw [hbl.out]; exact g4) hz4 ?_; intro v5 w5 hown5 hgrow5 hat5)
  have hb5 : Below w.heap.size w w5 := hb14.grown hgrow5 (by omega) (fun j hj => Nat.le_trans (by omega) (hown4.lt j hj).1)
  have hown : w5.ownsRow w3.heap.size 5 1 v5 (8 + bs.length) (Lib.byteCells (frameOf bs)) := by
    rw [← Lib.byteCells_append, hbl.out] at hown5
    exact hown5
  go_ret
  exact ⟨v5, rfl, owns_le hown (by omega), hb5⟩


theorem oneOf_yes {l : List UInt8} {n : Nat} (h8 : 8 ≤ l.length) (hn : numOf (l.take 4) = n) (h1 : n ≤ 200000) (h2 : n ≤ l.length - 8) (h3 : sum32 ((l.drop 8).take n) = numOf ((l.drop 4).take 4)) : oneOf l = some ((l.drop 8).take n) := by
  subst hn
  unfold oneOf
  rw [if_pos ⟨h8, h1, h2, h3⟩]
theorem oneOf_no {l : List UInt8} {n : Nat} (hn : numOf (l.take 4) = n) (h : ¬ (n ≤ 200000 ∧ n ≤ l.length - 8 ∧ sum32 ((l.drop 8).take n) = numOf ((l.drop 4).take 4))) : oneOf l = none := by
  subst hn
  unfold oneOf
  rw [if_neg (fun h' => h h'.2)]

section
set_option maxRecDepth 100000
set_option maxHeartbeats 2000000

/-- Up to where the parts go. -/
theorem first_short (v : Value) (l : List UInt8) (w : World) (hv : Sl w v (Lib.byteCells l)) (h8 : l.length < 8) :
    Calls Tryd.prog 18 #[v] w fun e w' => e = .returned (.tuple #[.slice none 0 0, .bool false]) ∧ Below w.heap.size w w' := by
  obtain ⟨ao, cap, rfl⟩ := hv.form
  rw [Lib.byteCells_length] at hv ⊢
  have h8' : (l.length : Int) < 8 := by omega
  clear h8
  go_enter Tryd.func18, Tryd.ntmps18
  go_wp2
  exact bodyPost_ret (results_tmp2 rfl _ _ _) rfl ⟨rfl, Below.refl _ _⟩

theorem first_long (v : Value) (l : List UInt8) (w : World) (hv : Sl w v (Lib.byteCells l)) (hlen : l.length ≤ 70368744177664) (ht : Tab w) (h8 : 8 ≤ l.length) (n s : Nat) (hn : numOf (l.take 4) = n) (hs : numOf ((l.drop 4).take 4) = s) (x : List UInt8) (hx : x = (l.drop 8).take n) :
    Calls Tryd.prog 18 #[v] w fun e w' => ((200000 < n ∨ l.length - 8 < n ∨ sum32 x ≠ s) ∧ e = .returned (.tuple #[.slice none 0 0, .bool false]) ∨
      (n ≤ 200000 ∧ n ≤ l.length - 8 ∧ sum32 x = s) ∧ ∃ ao c, e = .returned (.tuple #[.slice ao n c, .bool true]) ∧ Sl w' (.slice ao n c) (Lib.byteCells x)) ∧ Below w.heap.size w w' := by
  obtain ⟨i0, hi0, hi1, hi2, hi3⟩ := info_parts Tryd.info5
  obtain ⟨ao, cap, rfl⟩ := hv.form
  rw [Lib.byteCells_length] at hv ⊢
  obtain ⟨am, cm, rm, sm, _⟩ := run_slice_toK (P := Tryd.prog) 22 5 Tryd.underlying22 hi0 hv 8 (by rw [Lib.byteCells_length]; omega) .i64
  obtain ⟨v2, r2, s2, f2, ao2, c2, rfl⟩ := run_slice_from (P := Tryd.prog) 22 5 Tryd.underlying22 hi0 hi2 hv 8 (by rw [Lib.byteCells_length]; omega)
  rw [← byteCells_take] at sm
  rw [← byteCells_drop] at s2
  rw [Lib.byteCells_length] at r2 s2
  rw [show ((8 : Nat) : Int) = 8 from rfl] at rm r2
  have h8' : ¬ ((l.length : Int) < 8) := by omega
  have h8'' : (8 : Int) ≤ (l.length : Int) := by omega
  have hl8 : (l.take 8).length = 8 := by rw [List.length_take]; omega
  have e1 : (l.take 8).take 4 = l.take 4 := by rw [List.take_take]; rfl
  have e2 : ((l.take 8).drop 4).take 4 = (l.drop 4).take 4 := by rw [List.drop_take, List.take_take]; rfl
  have hn32 : n < 4294967296 := by have := numOf_lt (l.take 4); rw [hn, List.length_take, Nat.min_eq_left (by omega)] at this; exact this
  clear f2
  go_enter Tryd.func18, Tryd.ntmps18
  go_wp2_with fail
  refine (Read_any _ (l.take 8) w (hl8.symm ▸ sm) (by omega)).mono ?_
  rintro e w1 ⟨br, rfl, hr1, hbr, hbr', hb1⟩
  have hz1 := hb1.size
  go_wp2_with fail
  refine (Num_ok br (l.take 8) 4 w1 hr1 (by rw [hl8]; decide)).mono ?_
  rw [show heldN 4 = 4 from rfl, e1, hn]
  rintro e w2 ⟨rfl, hr2, hk2⟩
  have hz2 := hk2.size
  have hb2 : Below w.heap.size w w2 := hb1.trans (hk2.below (by omega) fun k hk => by show ¬ k = _; omega)
  clear hk2 hr1
  go_wp2_with fail
  refine (Num_ok br ((l.take 8).drop 4) 4 w2 hr2 (by rw [List.length_drop, hl8]; decide)).mono ?_
  rw [show heldN 4 = 4 from rfl, e2, hs]
  rintro e w3 ⟨rfl, hr3, hk3⟩
  have hz3 := hk3.size
  have hb3 : Below w.heap.size w w3 := hb2.trans (hk3.below (by omega) fun k hk => by show ¬ k = _; omega)
  clear hk3 hr2 hr3 hb1 hb2
  have hwl : IntKind.u64.wrap ((l.length - 8 : Nat) : Int) = ((l.length - 8 : Nat) : Int) := by rw [IntKind.wrap_u64]; omega
  have hn0 : (0 : Int) ≤ (n : Int) := Int.natCast_nonneg _
  by_cases c1 : 200000 < n
  · have c1' : (200000 : Int) < (n : Int) := by omega
    have HC := hid c1
    clear c1
    go_wp2
    exact bodyPost_ret (results_tmp2 rfl _ _ _) rfl ⟨.inl ⟨.inl HC.out, rfl⟩, hb3⟩
  · have c1' : ¬ (200000 : Int) < (n : Int) := by omega
    by_cases c2 : l.length - 8 < n
    · have c2' : ((l.length - 8 : Nat) : Int) < (n : Int) := by omega
      have HC := hid c2
      clear c2
      go_wp2
      exact bodyPost_ret (results_tmp2 rfl _ _ _) rfl ⟨.inl ⟨.inr (.inl HC.out), rfl⟩, hb3⟩
    · have c2' : ¬ ((l.length - 8 : Nat) : Int) < (n : Int) := by omega
      obtain ⟨ar, cr, rr, sr, _⟩ := run_slice_toK (P := Tryd.prog) 22 5 Tryd.underlying22 hi0 s2 n (by rw [Lib.byteCells_length, List.length_drop]; omega) .u64
      rw [← byteCells_take, ← hx] at sr
      have hxl : x.length = n := by rw [hx, List.length_take, List.length_drop]; omega
      have hsx := sum32_lt x
      have hwx : IntKind.u64.wrap (sum32 x : Int) = (sum32 x : Int) := by rw [IntKind.wrap_u64]; omega
      have HC1 := hid c1
      have HC2 := hid c2
      have HX := hid hx
      clear c1 c2 hx hs hn
      by_cases c3 : sum32 x = s
      · have c3' : (((sum32 x : Nat) : Int) != ((s : Nat) : Int)) = false := by simp [c3]
        have HC3 := hid c3
        clear c3
        go_wp2_with fail
        refine (PSum32_any _ x (by omega) w3 (Sl.old sr hb3) (ht.old hb3 ht.pos)).mono ?_
        rintro e w4 ⟨rfl, hb4⟩
        go_wp2
        exact bodyPost_ret (results_tmp2 rfl _ _ _) rfl ⟨.inr ⟨⟨by have := HC1.out; omega, by have := HC2.out; omega, HC3.out⟩, ar, cr, rfl, Sl.old (Sl.old sr hb3) hb4⟩, below_step hb3 hb4 hb3.size⟩
      · have c3' : (((sum32 x : Nat) : Int) != ((s : Nat) : Int)) = true := by simp; omega
        have HC3 := hid c3
        clear c3
        go_wp2_with fail
        refine (PSum32_any _ x (by omega) w3 (Sl.old sr hb3) (ht.old hb3 ht.pos)).mono ?_
        rintro e w4 ⟨rfl, hb4⟩
        go_wp2
        exact bodyPost_ret (results_tmp2 rfl _ _ _) rfl ⟨.inl ⟨.inr (.inr HC3.out), rfl⟩, below_step hb3 hb4 hb3.size⟩
end

/-- The record that bytes begin with, or none. -/
theorem first_some (v : Value) (l x : List UInt8) (w : World) (hv : Sl w v (Lib.byteCells l)) (hlen : l.length ≤ 70368744177664) (ht : Tab w) (ho : oneOf l = some x) :
    Calls Tryd.prog 18 #[v] w fun e w' => ∃ ao c, e = .returned (.tuple #[.slice ao x.length c, .bool true]) ∧ Sl w' (.slice ao x.length c) (Lib.byteCells x) ∧ Below w.heap.size w w' := by
  have hl := oneOf_length ho
  refine (first_long v l w hv hlen ht (by omega) x.length _ hl.2.2.2.symm rfl x hl.2.2.1).mono ?_
  rintro e w' ⟨h | ⟨_, ao, c, h1, h2⟩, hb⟩
  · exfalso
    have hc : ¬ (8 ≤ l.length ∧ numOf (l.take 4) ≤ 200000 ∧ numOf (l.take 4) ≤ l.length - 8 ∧ sum32 ((l.drop 8).take (numOf (l.take 4))) = numOf ((l.drop 4).take 4)) := by
      rw [← hl.2.2.2, ← hl.2.2.1]
      rintro ⟨_, h1, h2, h3⟩
      rcases h.1 with h | h | h
      · omega
      · omega
      · exact h h3
    unfold oneOf at ho
    rw [if_neg hc] at ho
    cases ho
  · exact ⟨ao, c, h1, h2, hb⟩
theorem first_none (v : Value) (l : List UInt8) (w : World) (hv : Sl w v (Lib.byteCells l)) (hlen : l.length ≤ 70368744177664) (ht : Tab w) (ho : oneOf l = none) :
    Calls Tryd.prog 18 #[v] w fun e w' => e = .returned (.tuple #[.slice none 0 0, .bool false]) ∧ Below w.heap.size w w' := by
  by_cases h8 : l.length < 8
  · exact first_short v l w hv h8
  · refine (first_long v l w hv hlen ht (by omega) _ _ rfl rfl _ rfl).mono ?_
    rintro e w' ⟨h | ⟨⟨h1, h2, h3⟩, _⟩, hb⟩
    · exact ⟨h.2, hb⟩
    · rw [oneOf_yes (by omega) rfl h1 h2 h3] at ho
      cases ho
end Go.Proofs.YtjnhgoedhggocaaDoor
