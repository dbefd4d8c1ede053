/-
  The statements' first line (awake): it answers true, and makes new memory alone.
-/
import Derived.Test.YtccfhbdafoamoaaOctE
namespace Go.Proofs.Ytccfhbdafoamoaa
open Go.RowKit

theorem Wr.new (w : World) : Wr (w.alloc (.cells #[.slice none 0 0] 25)) w.heap.size w.heap.size (.slice none 0 0) [] :=
  ⟨heap_alloc_new w _, World.ownsRow_nil _ _ _ _⟩

/-- What a Writer's call does to blocks that were there before the Writer. -/
theorem Foot.below {w0 w w' : World} {B bw : Nat} {v v' : Value} {bs : List UInt8} (h : Foot w w' bw v v') (hw : Wr w B bw v bs) (hb : Below B w0 w) (hB : B ≤ w.heap.size) (hbw : B ≤ bw) : Below B w0 w' :=
  hb.trans (h.keep.below hB fun k hk => by
    rintro (e | e)
    · omega
    · have := (hw.own.lt k e).1; omega)

theorem Wr.kept {w w' : World} {B bw : Nat} {v : Value} {bs : List UInt8} {S : Nat → Prop} (h : Wr w B bw v bs) (hk : Keep S w w') (h1 : ¬ S bw) (h2 : ∀ k, v.ownBlock = some k → ¬ S k) : Wr w' B bw v bs :=
  ⟨(hk.block bw (lt_of_block h.block) h1).trans h.block, hk.owns h.own h2⟩
theorem Wr.old {w w' : World} {B bw : Nat} {v : Value} {bs : List UInt8} (h : Wr w B bw v bs) (hk : Below w.heap.size w w') : Wr w' B bw v bs :=
  h.kept (Keep.ofBelow (S := fun _ => False) hk) (fun h => h) (fun _ _ h => h)
theorem Rd.old {w w' : World} {br : Nat} {l : List UInt8} {e : Int} (h : Rd w br l e) (hk : Below w.heap.size w w') : Rd w' br l e :=
  h.kept (Keep.ofBelow (S := fun _ => False) hk) (fun h => h) (fun _ _ _ _ _ _ h => h)
theorem Rd.drew {w : World} {br : Nat} {l : List UInt8} {e : Int} (h : Rd w br l e) : Rd w.drew br l e := ⟨h.ex⟩
theorem Sl.old {w w' : World} {v : Value} {cs : List Value} (h : Sl w v cs) (hk : Below w.heap.size w w') : Sl w' v cs :=
  h.kept fun _ _ _ _ hlt => hk.block _ hlt
/-- New blocks leave what was below as it was. -/
theorem below_step {B : Nat} {a b c : World} (h : Below B a b) (k : Below b.heap.size b c) (hB : B ≤ b.heap.size) : Below B a c := h.trans (k.mono hB)

section
set_option maxHeartbeats 1000000
theorem awake_any (w : World) : Calls Try.prog 8 #[] w fun e w' => e = .returned (.bool true) ∧ Below w.heap.size w w' := by
  go_enter Try.func8, Try.ntmps8
  go_wp2_with fail
  have hw0 := Wr.new w
  have hb0 : Below w.heap.size w (w.alloc (.cells #[.slice none 0 0] 25)) := (Below.refl _ _).alloc (Nat.le_refl _) _
  have hz0 := hb0.size
  refine (Int_any w.heap.size w.heap.size _ [] (-1) _ hw0 hz0 (by decide)).mono ?_
  rintro e w1 ⟨rfl, v1, hw1, hf1⟩
  have hb1 := hf1.below hw0 hb0 hz0 (Nat.le_refl _)
  have hz1 := hb1.size
  clear hf1 hb0 hz0 hw0
  go_wp2_with fail
  refine (Num_any w.heap.size w.heap.size _ _ 258 2 (by decide) _ hw1 hz1 (by decide)).mono ?_
  rintro e w2 ⟨rfl, v2, hw2, hf2⟩
  have hb2 := hf2.below hw1 hb1 hz1 (Nat.le_refl _)
  have hz2 := hb2.size
  clear hf2 hb1 hz1 hw1
  go_wp2_with fail
  have hw3 := hw2.old ((Below.refl w2.heap.size w2).alloc (Nat.le_refl _) (.cells #[.int .u8 1, .int .u8 0, .int .u8 0, .int .u8 0] 5))
  have hb3 := hb2.alloc hz2 (.cells #[.int .u8 1, .int .u8 0, .int .u8 0, .int .u8 0] 5)
  have hz3 := hb3.size
  refine (Read_any (.slice (some ⟨w2.heap.size, 0, none⟩) 4 4) [1, 0, 0, 0] _ (Sl.ofBlock (cs := #[.int .u8 1, .int .u8 0, .int .u8 0, .int .u8 0]) (heap_alloc_new w2 _)) (by decide)).mono ?_
  rintro e w4 ⟨br, rfl, hr4, hbr, hbr', hb4'⟩
  have hw4 := hw3.old hb4'
  have hb4 := below_step hb3 hb4' hz3
  have hz4 := hb4.size
  clear hw2 hw3 hb2 hb3 hb4'
  go_wp2_with fail
  refine (Bytes_any _ _ _ _ _ hw4 (by decide)).mono ?_
  rintro e w5 ⟨v5, rfl, hown5, hb5'⟩
  have hr5 := hr4.old hb5'
  have hb5 := below_step hb4 hb5' hz4
  have hz5 := hb5.size
  clear hr4 hb4 hb5' hw4
  go_wp2_with fail
  have hs6 := (Sl.ofOwns hown5).alloc (.cells #[.int .u8 0, .int .u8 0, .int .u8 0, .int .u8 0, .int .u8 2, .int .u8 1] 5)
  have hr6 := hr5.old ((Below.refl w5.heap.size w5).alloc (Nat.le_refl _) (.cells #[.int .u8 0, .int .u8 0, .int .u8 0, .int .u8 0, .int .u8 2, .int .u8 1] 5))
  have hb6 := hb5.alloc hz5 (.cells #[.int .u8 0, .int .u8 0, .int .u8 0, .int .u8 0, .int .u8 2, .int .u8 1] 5)
  have hz6 := hb6.size
  refine (Same_bytes v5 (.slice (some ⟨w5.heap.size, 0, none⟩) 6 6) _ [0, 0, 0, 0, 2, 1] _ hs6 (Sl.ofBlock (cs := #[.int .u8 0, .int .u8 0, .int .u8 0, .int .u8 0, .int .u8 2, .int .u8 1]) (heap_alloc_new w5 _))).mono ?_
  rw [show (([] ++ intBytes (-1) ++ lowBytes (Int.toNat 258) (heldN 2) : List UInt8) == [0, 0, 0, 0, 2, 1]) = true from by decide]
  rintro e w6 ⟨rfl, rfl⟩
  go_wp2_with fail
  refine (RInt_all br _ _ _ hr6).mono ?_
  rw [show intV [1, 0, 0, 0] 0 = 0 from by decide]
  rintro e w7 ⟨rfl, hr7, hk7⟩
  have hb7 : Below w.heap.size w w7 := hb6.trans (hk7.below hz6 fun k hk => by show ¬ k = br; omega)
  rw [show stL 4 [1, 0, 0, 0] 0 = [] from by decide, show stE 4 [1, 0, 0, 0] 0 = 0 from by decide] at hr7
  go_wp2_with fail
  refine (Left_any br _ _ _ hr7).mono ?_
  rintro e w8 ⟨rfl, rfl⟩
  go_wp2
  go_ret
  exact ⟨rfl, hb7⟩
end
end Go.Proofs.Ytccfhbdafoamoaa
