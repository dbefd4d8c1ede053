/-
  Package record's statements: awake.
-/
import Derived.Test.YtjnhgoedhggocaaDoorRecB
import Derived.Test.YtjnhgoedhggocaaDoorHBytes
import Derived.Lib.SlBytesConst
namespace Go.Proofs.YtjnhgoedhggocaaDoor
open Go.RowKit

theorem scanOf_short {bs : List UInt8} (h : bs.length < 8) : scanOf bs = ([], 0) := scanOf_none (oneOf_none h)
theorem scan_awake : scanOf (frameOf [97] ++ [7]) = ([[97]], 9) := by
  rw [scanOf_frame _ _ (by decide), scanOf_short (by decide)]
  rfl
/-- '[]byte("..")' of a constant of one byte. -/
theorem Sl.lit1 (w : World) (x : Int) (b : UInt8) (hx : x = (b.toNat : Int)) (t : TypeId) (fr : Nat × Nat) : Sl (w.alloc (.cells #[.int .u8 x] t fr)) (.slice (some ⟨w.heap.size, 0, none⟩) 1 1) (Lib.byteCells [b]) := by
  subst hx
  exact Sl.ofBlock (heap_alloc_new w (.cells #[.int .u8 (b.toNat : Int)] t fr))

section
set_option maxRecDepth 100000
set_option maxHeartbeats 2000000
theorem awake_any (w : World) (ht : Tab w) :
    Calls Tryd.prog 7 #[] w fun e w' => e = .returned (.bool true) ∧ Below w.heap.size w w' := by
  obtain ⟨i0, hi0, hi1, hi2, hi3⟩ := info_parts Tryd.info5
  have kc := fun (w : World) (C : Array Value) (n c : Nat) => Lib.run_convert_bytes_const (P := Tryd.prog) w 22 5 C n c Tryd.underlying22 Tryd.underlying5
  have s0 := Sl.lit1 w 97 97 rfl 5 (1, 2)
  have b0 : Below w.heap.size w (w.alloc (.cells #[.int .u8 97] 5 (1, 2))) := (Below.refl _ _).alloc (Nat.le_refl _) _
  go_enter Tryd.func7, Tryd.ntmps7
  go_wp2_with fail
  refine (PFrame_any _ [97] (by simp) _ s0 (ht.old b0 ht.pos)).mono ?_
  rintro e w1 ⟨v1, rfl, hown1, hb1⟩
  have hb1' := below_step b0 hb1 (by simp)
  have hz1 := hb1.size
  rw [World.size_alloc] at hown1 hz1
  obtain ⟨a1, c1, rfl⟩ := owns_form hown1
  rw [show 8 + [(97 : UInt8)].length = 9 from rfl] at hown1 ⊢
  clear s0 b0 hb1
  go_wp2_with (refine wpList_append_any _ rfl (.tmp 6) (.tmp 7) _ _ rfl (w.heap.size + 1) 5 i0 _ 1 1 Tryd.underlying22 hi0 hi1 hi2 hi3 rfl (by omega) (.slice a1 9 c1) _ _ rfl (hown1.alloc _) _ 1 [.int .u8 7] rfl (Src.ofSlice _ Tryd.underlying22 ⟨w1.heap.size, 0, none⟩ 1 1 [.int .u8 7] (by rfl) (World.news_of_block (cs := #[.int .u8 7]) (t := 5) (fr := (0, 0)) (heap_alloc_new w1 _)) (by simp [Value.oneCell'])) (by unfold maxLen; omega) (by omega) (by simp; omega) ?_; intro v2 w2 hown2 hgrow2 hat2)
  have hb2 : Below w.heap.size w w2 := (hb1'.alloc (by omega) _).grown hgrow2 (by simp; omega) (fun j hj => by have := (hown1.lt j hj).1; omega)
  have s2 : Sl w2 v2 (Lib.byteCells (frameOf [97] ++ [7])) := by
    rw [Lib.byteCells_append]
    exact Sl.ofOwns hown2
  have hz2 := hb2.size
  clear hgrow2 hat2 hown2 hown1
  refine (PScan_any v2 _ (by rw [List.length_append, frameOf_length]; decide) w2 s2 (ht.old hb2 ht.pos)).mono ?_
  rw [scan_awake]
  rintro e w3 ⟨l, rfl, hown3, hb3⟩
  have hz3 := hb3.size
  have hb3' := below_step hb2 hb3 hz2
  obtain ⟨al, cl, rfl⟩ := hown3.form
  obtain ⟨a, bx, cx, bs, rfl, hc, hbs, hs⟩ := hown3.slB.at (i := 0) (by decide)
  obtain rfl : [97] = bs := by simpa using hbs
  rw [show (a.add 0) = a from rfl] at hc
  rw [show [(97 : UInt8)].length = 1 from rfl] at hc hs
  have s4 := Sl.lit1 w3 97 97 rfl 5 (1, 2)
  have b4 : Below w3.heap.size w3 (w3.alloc (.cells #[.int .u8 97] 5 (1, 2))) := (Below.refl _ _).alloc (Nat.le_refl _) _
  have hs4 := Sl.old hs b4
  have hb4 := below_step hb3' b4 (by omega)
  clear hown3 hbs s2 b4 hs
  rw [show ([[97]] : List (List UInt8)).length = 1 from rfl]
  go_wp2_with fail
  refine (HBytes_any _ _ _ _ _ hs4 s4).mono ?_
  rintro e w5 ⟨rfl, rfl⟩
  go_wp2
  go_ret
  exact ⟨rfl, hb4⟩
end
end Go.Proofs.YtjnhgoedhggocaaDoor
