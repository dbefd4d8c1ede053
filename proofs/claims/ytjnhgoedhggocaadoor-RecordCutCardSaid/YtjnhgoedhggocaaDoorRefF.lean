/-
  The document's own Sum32 and Frame (rickref01).
-/
import Derived.Test.YtjnhgoedhggocaaDoorRefB
import Derived.Test.YtjnhgoedhggocaaDoorRefWA
namespace Go.Proofs.YtjnhgoedhggocaaDoor
open Go.RowKit

/-- the first four bytes of a name, the lowest first -/
def sum32 (bs : List UInt8) : Nat := numOf ((Sha.sum bs).take 4)
/-- a record's bytes: its length, its sum, itself -/
def frameOf (bs : List UInt8) : List UInt8 := lowBytes bs.length 4 ++ lowBytes (sum32 bs) 4 ++ bs
theorem sum32_lt (bs : List UInt8) : sum32 bs < 4294967296 := by
  have h := numOf_lt ((Sha.sum bs).take 4)
  rw [List.length_take, Sha.sum_length] at h
  exact h
theorem frameOf_length (bs : List UInt8) : (frameOf bs).length = 8 + bs.length := by
  rw [frameOf, List.length_append, List.length_append, lowBytes_length, lowBytes_length]

theorem or4 (a b c d : UInt8) : bits .or .u32 (bits .or .u32 (bits .or .u32 ((a.toNat : Int) % 4294967296) ((b.toNat : Int) % 4294967296 * 256 % 4294967296)) ((c.toNat : Int) % 4294967296 * 65536 % 4294967296)) ((d.toNat : Int) % 4294967296 * 16777216 % 4294967296) = (numOf [a, b, c, d] : Int) := by
  have ha := a.toNat_lt; have hb := b.toNat_lt; have hc := c.toNat_lt; have hd := d.toNat_lt
  rw [show (a.toNat : Int) % 4294967296 = (a.toNat : Nat) by omega, show (b.toNat : Int) % 4294967296 * 256 % 4294967296 = ((b.toNat * 2 ^ 8 : Nat) : Int) by omega, show (c.toNat : Int) % 4294967296 * 65536 % 4294967296 = ((c.toNat * 2 ^ 16 : Nat) : Int) by omega, show (d.toNat : Int) % 4294967296 * 16777216 % 4294967296 = ((d.toNat * 2 ^ 24 : Nat) : Int) by omega]
  rw [u32_or_nat _ _ (by omega) (by omega), Nat.or_comm, nat_join 8 _ _ (Nat.mul_mod_left _ _) (by omega), u32_or_nat _ _ (by omega) (by omega), Nat.or_comm, nat_join 16 _ _ (Nat.mul_mod_left _ _) (by omega), u32_or_nat _ _ (by omega) (by omega), Nat.or_comm, nat_join 24 _ _ (Nat.mul_mod_left _ _) (by omega)]
  simp only [numOf]
  omega

set_option maxRecDepth 100000 in
set_option maxHeartbeats 2000000 in
theorem RSum32_any (v : Value) (bs : List UInt8) (hlen : bs.length ≤ 70368744177664) (w : World) (hv : Sl w v (Lib.byteCells bs)) :
    Calls Tryd.prog 12 #[v] w fun e w' => e = .returned (.int .u32 (sum32 bs : Int)) ∧ Below w.heap.size w w' := by
  unfold sum32
  obtain ⟨K, hK⟩ : ∃ K, Sha.sum bs = K := ⟨_, rfl⟩
  have hKl := Sha.sum_length bs
  rw [hK] at hKl ⊢
  have hKs : (Lib.byteCells K).toArray.size = 32 := by rw [List.size_toArray, Lib.byteCells_length, hKl]
  have hK1 : (Lib.byteCells K).toArray.all (·.oneCell') = true := by
    rw [Array.all_eq_true]
    intro i hi
    simp [Lib.byteCells, Value.oneCell']
  have hKc : ∀ (i : Nat) (b : UInt8), K[i]? = some b → (Lib.byteCells K).toArray[i]? = some (Value.int .u8 (b.toNat : Int)) := by
    intro i b hb
    simp [Lib.byteCells, hb]
  obtain ⟨a, b, c, d, R, hR⟩ : ∃ a b c d R, K = a :: b :: c :: d :: R := by
    match K, hKl with
    | a :: b :: c :: d :: R, _ => exact ⟨a, b, c, d, R, rfl⟩
  have h0 : K[0]? = some a := by rw [hR]; rfl
  have h1 : K[1]? = some b := by rw [hR]; rfl
  have h2 : K[2]? = some c := by rw [hR]; rfl
  have h3 : K[3]? = some d := by rw [hR]; rfl
  have HT := hid (show K.take 4 = [a, b, c, d] by rw [hR]; rfl)
  clear hR
  go_enter Tryd.func12, Tryd.ntmps12
  go_wp2_with fail
  refine (RSum_any v bs hlen w hv).mono ?_
  rintro e w1 ⟨rfl, hb1⟩
  rw [hK]
  have hz1 := hb1.size
  go_wp2_with (refine wpList_store_all rfl 47 _ _ rfl w1.heap.size _ rfl rfl _ _ (heap_alloc_new w1 _) 32 Tryd.sizeKey hKs rfl hK1 ?_; intro w2 hg2 hk2; have c0 := blk_cell hg2 (hKc 0 a h0); have c1 := blk_cell hg2 (hKc 1 b h1); have c2 := blk_cell hg2 (hKc 2 c h2); have c3 := blk_cell hg2 (hKc 3 d h3))
  have hz2 := hk2.size
  rw [World.size_alloc] at hz2
  have hb2 : Below w.heap.size w w2 := (hb1.alloc hz1 _).trans (hk2.below (by simp; omega) fun k hk => by show ¬ k = _; omega)
  rw [or4, HT.out]
  go_ret
  exact ⟨rfl, hb2⟩

set_option maxRecDepth 100000 in
set_option maxHeartbeats 2000000 in
theorem RFrame_any (v : Value) (bs : List UInt8) (hlen : bs.length + 16 ≤ 70368744177664) (w : World) (hv : Sl w v (Lib.byteCells bs)) :
    Calls Tryd.prog 15 #[v] w fun e w' => ∃ v', e = .returned v' ∧ Sl w' v' (Lib.byteCells (frameOf bs)) ∧ (∃ h, w.heap.size ≤ h ∧ w'.ownsRow h 5 1 v' (8 + bs.length) (Lib.byteCells (frameOf bs))) ∧ Below w.heap.size w w' := by
  obtain ⟨i0, hi0, hi1, hi2, hi3⟩ := info_parts Tryd.info5
  have hbl := hid (Lib.byteCells_length bs)
  have hs32 := sum32_lt bs
  have hbig := sum32_lt bs
  have hw1 : IntKind.u64.wrap (bs.length : Int) = (bs.length : Int) := by simp [IntKind.wrap, IntKind.bits, IntKind.signed]; omega
  obtain ⟨ao, cap, hvf⟩ := hv.form
  subst hvf
  rw [hbl.out] at hv ⊢
  go_enter Tryd.func15, Tryd.ntmps15
  go_wp2_with fail
  refine (WNum_any (.slice none 0 0) [] (bs.length : Int) 4 (by omega) w (Sl.nil w) (by simp)).mono ?_
  rintro e w1 ⟨v1, rfl, hown1, hb1⟩
  rw [show heldN 4 = 4 from rfl, List.nil_append, Int.toNat_natCast] at hown1
  have hz1 := hb1.size
  have hv1 := Sl.old hv hb1
  go_wp2_with fail
  refine (RSum32_any _ bs (by omega) w1 hv1).mono ?_
  rintro e w2 ⟨rfl, hb2⟩
  have hz2 := hb2.size
  have hL1 := lowBytes_length bs.length 4
  have hL2 := lowBytes_length (sum32 bs) 4
  go_wp2_with fail
  refine (WNum_any v1 (lowBytes bs.length 4) (sum32 bs : Int) 4 (by omega) w2 ((Sl.ofOwns hown1).old hb2) (by rw [hL1]; omega)).mono ?_
  rintro e w3 ⟨v3, rfl, hown3, hb3⟩
  rw [show heldN 4 = 4 from rfl, Int.toNat_natCast, hL1] at hown3
  have hz3 := hb3.size
  have hb13 := below_step (below_step hb1 hb2 hz1) hb3 (by omega)
  have g3 : 4 + 4 + bs.length ≤ maxLen := by unfold maxLen; omega
  have g4 : (4 + 4 + bs.length) * 1 ≤ 140737488355328 := by omega
  go_wp2_with (refine wpList_append_any _ rfl (.tmp 10) (.tmp 11) _ _ rfl w2.heap.size 5 i0 _ 1 1 Tryd.underlying22 hi0 hi1 hi2 hi3 rfl (by omega) v3 _ _ rfl hown3 _ _ _ rfl (((hv1.old hb2).old hb3).src Tryd.underlying22 (byte_one _)) (by rw [hbl.out]; exact g3) (by rw [hbl.out]; exact g4) hz3 ?_; intro v4 w4 hown4 hgrow4 hat4)
  have hb4 : Below w.heap.size w w4 := hb13.grown hgrow4 (by omega) (fun j hj => Nat.le_trans (by omega) (hown3.lt j hj).1)
  have hown : w4.ownsRow w2.heap.size 5 1 v4 (8 + bs.length) (Lib.byteCells (frameOf bs)) := by
    rw [← Lib.byteCells_append, hbl.out] at hown4
    exact hown4
  go_ret
  exact ⟨v4, rfl, Sl.ofOwns hown, ⟨_, by omega, hown⟩, hb4⟩
end Go.Proofs.YtjnhgoedhggocaaDoor
