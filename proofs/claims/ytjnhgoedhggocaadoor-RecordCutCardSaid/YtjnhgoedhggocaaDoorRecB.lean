/-
  Package record: Scan tells the records that bytes begin with, and how many bytes they take.
-/
import Derived.Test.YtjnhgoedhggocaaDoorRecA
namespace Go.Proofs.YtjnhgoedhggocaaDoor
open Go.RowKit

/-- How far a scan has come: what is done, and what is left to do. -/
structure Came (bs : List UInt8) (ds : List (List UInt8)) (p : Nat) : Prop where
  le : p ≤ bs.length
  cnt : ds.length ≤ p
  all : scanOf bs = (ds ++ (scanOf (bs.drop p)).1, p + (scanOf (bs.drop p)).2)
theorem Came.start (bs : List UInt8) : Came bs [] 0 := ⟨Nat.zero_le _, Nat.le_refl _, by simp⟩
theorem Came.stop {bs : List UInt8} {ds : List (List UInt8)} {p : Nat} (h : Came bs ds p) (ho : oneOf (bs.drop p) = none) : scanOf bs = (ds, p) := by
  rw [h.all, scanOf_none ho]
  simp
theorem Came.step {bs x : List UInt8} {ds : List (List UInt8)} {p : Nat} (h : Came bs ds p) (ho : oneOf (bs.drop p) = some x) : Came bs (ds ++ [x]) (p + (8 + x.length)) := by
  have hl := (oneOf_length ho).1
  rw [List.length_drop] at hl
  have hle := h.le
  have hcnt := h.cnt
  refine ⟨by omega, by rw [List.length_append, List.length_singleton]; omega, ?_⟩
  rw [h.all, scanOf_some ho, List.drop_drop]
  simp [Nat.add_assoc]

set_option maxRecDepth 100000 in
set_option maxHeartbeats 2000000 in
theorem PScan_any (v : Value) (bs : List UInt8) (hlen : bs.length ≤ 1099511627776) (w : World) (hv : Sl w v (Lib.byteCells bs)) (ht : Tab w) :
    Calls Tryd.prog 9 #[v] w fun e w' => ∃ l, e = .returned (.tuple #[l, .int .i64 ((scanOf bs).2 : Nat)]) ∧ OwnB w' w.heap.size l (scanOf bs).1 ∧ Below w.heap.size w w' := by
  obtain ⟨i0, hi0, hi1, hi2, hi3⟩ := info_parts Tryd.info5
  obtain ⟨i1, hj0, hj1, hj2, hj3⟩ := info_parts Tryd.infoSlB
  obtain ⟨ao, cap, rfl⟩ := hv.form
  rw [Lib.byteCells_length] at hv ⊢
  go_enter Tryd.func9, Tryd.ntmps9
  go_wp2_with fail
  go_loopw [4, 5] (fun l i wr => ∃ ds p, Hid (Came bs ds p) ∧ p ≤ bs.length ∧ ds.length ≤ p ∧ i = .int .i64 (p : Nat) ∧ OwnB wr w.heap.size l ds ∧ Below w.heap.size w wr) (fun _ i _ => bs.length - (intOf i).toNat)
  case atStart => exact ⟨[], 0, hid (Came.start bs), Nat.zero_le _, Nat.le_refl _, rfl, OwnB.nil _ _, Below.refl _ _⟩
  case round =>
    obtain ⟨ds, p, HC, hp, hdp, rfl, hown, hbel⟩ := hrel
    have hz := hbel.size
    obtain ⟨v2, r2, s2, f2, ao2, c2, rfl⟩ := run_slice_from (P := Tryd.prog) 22 5 Tryd.underlying22 hi0 hi2 hv p (by rw [Lib.byteCells_length]; omega)
    rw [← byteCells_drop] at s2
    rw [Lib.byteCells_length] at r2 s2
    have s3 := Sl.old s2 hbel
    have ht3 := ht.old hbel ht.pos
    have hdl : (bs.drop p).length = bs.length - p := List.length_drop
    clear f2
    cases ho : oneOf (bs.drop p) with
    | none =>
      have HS := hid (HC.out.stop ho)
      go_wp2_with fail
      refine (first_none _ _ _ s3 (by omega) ht3 ho).mono ?_
      rintro e w1 ⟨rfl, hb1⟩
      go_wp2
      rw [HS.out]
      exact bodyPost_ret (results_tmp2 rfl _ _ _) rfl ⟨_, rfl, hown.old hb1, below_step hbel hb1 hz⟩
    | some x =>
      have HN := hid (HC.out.step ho)
      have hol := (oneOf_length ho)
      rw [hdl] at hol
      have hx8 : 8 + x.length ≤ bs.length - p := hol.1
      go_wp2_with fail
      refine (first_some _ _ x _ s3 (by omega) ht3 ho).mono ?_
      rintro e w1 ⟨ax, cx, rfl, hsx, hb1⟩
      have hbw1 := below_step hbel hb1 hz
      have hz1 := hb1.size
      clear ho hol
      go_wp2_with fail
      refine (Clone_any _ x w1 hsx (by omega)).mono ?_
      rintro e w2 ⟨v3, rfl, hown3, hb2⟩
      obtain ⟨a3, c3, rfl⟩ := owns_form hown3
      have hbw2 := below_step hbw1 hb2 (by omega)
      have hz2 := hb2.size
      obtain ⟨vs, o1, o2, o3⟩ := ((hown.old hb1).old hb2).ex
      have hlt4 : ∀ j, Value.ownBlock u4 = some j → j < wr.heap.size := by
        obtain ⟨vs', q1, _⟩ := hown.ex
        exact fun j hj => (q1.lt j hj).2
      have hue : ∀ a n c, Value.slice a3 x.length c3 = .slice (some a) n c → some a.block ≠ Value.ownBlock u4 ∧ a.block < w2.heap.size := by
        intro a n c e
        have q := hown3.lt a.block (by rw [e]; rfl)
        refine ⟨fun e' => ?_, q.2⟩
        have := hlt4 _ e'.symm
        omega
      obtain ⟨a4, c4, hu4⟩ := owns_form o1
      subst hu4
      have g3 : ds.length + 1 ≤ maxLen := by unfold maxLen; omega
      have g4 : (ds.length + 1) * 24 ≤ 140737488355328 := by omega
      have hwr1 : IntKind.i64.wrap (8 + (x.length : Int)) = 8 + (x.length : Int) := IntWalk.i64_in _ (by omega)
      have hwr2 : IntKind.i64.wrap ((p : Int) + (8 + (x.length : Int))) = (p : Int) + (8 + (x.length : Int)) := IntWalk.i64_in _ (by omega)
      have hbase : w.heap.size ≤ (w2.alloc (.cells #[.slice a3 x.length c3] 22)).heap.size := by simp; omega
      clear hown hlt4
      go_wp2_with (refine wpList_append_any _ rfl (.tmp 19) (.tmp 22) _ _ rfl w.heap.size 22 i1 _ 1 24 Tryd.underlying25 hj0 hj1 hj2 hj3 rfl (by omega) _ _ _ rfl (o1.alloc _) _ 1 [.slice a3 x.length c3] rfl (Src.ofSlice _ Tryd.underlying25 ⟨w2.heap.size, 0, none⟩ 1 1 [.slice a3 x.length c3] (by rfl) (World.news_of_block (cs := #[.slice a3 x.length c3]) (t := 22) (fr := (0, 0)) (heap_alloc_new w2 _)) (by simp [Value.oneCell'])) g3 g4 hbase ?_; intro v5 w5 hown5 hgrow5 hat5)
      have hbx : Below w2.heap.size w2 (w2.alloc (.cells #[.slice a3 x.length c3] 22)) := (Below.refl _ _).alloc (Nat.le_refl _) _
      have R := OwnB.push o2 o3 (Sl.ofOwns hown3) hue hbx hown5 hgrow5 hat5
      have hb5 : Below w.heap.size w w5 := (hbw2.alloc (by omega) _).grown hgrow5 (by simp; omega) (fun j hj => (o1.lt j hj).1)
      clear hown5 hgrow5 hat5 o1 o2 o3 hue hbx
      go_wp2
      go_roundw
      case rel => exact ⟨ds ++ [x], p + (8 + x.length), HN, by omega, by simp; omega, by go_num, R, hb5⟩
      case measure => simp [intOf]; omega
end Go.Proofs.YtjnhgoedhggocaaDoor
