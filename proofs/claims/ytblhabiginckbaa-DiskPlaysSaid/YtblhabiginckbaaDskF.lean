/-
  Package disk: New, what a crash leaves of a file, a copy of a file.
-/
import Derived.Test.YtblhabiginckbaaDskE
namespace Go.Proofs.Ytblhabiginckbaa
open Go.RowKit

/-- New blocks leave what was below as it was. -/
theorem below_step {B : Nat} {a b c : World} (h : Below B a b) (k : Below b.heap.size b c) (hB : B ≤ b.heap.size) : Below B a c := h.trans (k.mono hB)

theorem below_drewN {B : Nat} {a b : World} (h : Below B a b) (n : Nat) : Below B a (b.drewN n) := ⟨h.os, h.tape, h.output, h.size, h.block⟩

/-- A disk with nothing in it. -/
def Dk.new (n : Int) : Dk := ⟨(heldI n 1000000).toNat, ⟨[], 0⟩, ⟨[], 0⟩, false, 0, 0, 0⟩
theorem Dk.new_wf (n : Int) : (Dk.new n).Wf := ⟨Nat.le_refl _, Nat.le_refl _, by simp [Dk.new], by simp only [Dk.new, heldI]; omega, fun _ => ⟨rfl, rfl⟩⟩
theorem New_any (n : Int) (w : World) : Calls Try.prog 9 #[.int .i64 n] w fun e w' => e = .returned (.pointer (some ⟨w.heap.size, 0, none⟩)) ∧ DiskIn w' w.heap.size (.slice none 0 0) (.slice none 0 0) (Dk.new n) ∧ Below w.heap.size w w' := by
  have hr : heldI n 1000000 = (((heldI n 1000000).toNat : Nat) : Int) := by unfold heldI; omega
  have HR := hid hr
  clear hr
  go_enter Try.func9, Try.ntmps9
  go_wp2_with fail
  refine (dheld_any _ _ _).mono ?_
  rintro e w' ⟨rfl, rfl⟩
  rw [HR.out]
  obtain ⟨r, hr⟩ : ∃ r, r = (heldI n 1000000).toNat := ⟨_, rfl⟩
  rw [← hr]
  have HR2 := hid hr
  clear hr HR
  go_wp2
  go_ret
  refine ⟨rfl, ⟨?_, World.ownsRow_nil _ _ _ _, World.ownsRow_nil _ _ _ _, by simp [Value.ownBlock], by simp [Value.ownBlock], by simp [Value.ownBlock]⟩, (Below.refl _ _).alloc (Nat.le_refl _) _⟩
  rw [heap_alloc_new]
  unfold Dk.new dkCells
  rw [← HR2.out]
  rfl

theorem Sl.cap' {w : World} {ao : Option Addr} {n cap : Nat} {cs : List Value} (h : Sl w (.slice ao n cap) cs) : n ≤ cap := by
  obtain ⟨_, c, hv, _, hc, _⟩ := h
  obtain ⟨_, rfl, rfl⟩ := Value.slice.inj hv
  exact hc
theorem Sl.drewN' {w : World} {v : Value} {cs : List Value} (h : Sl w v cs) (n : Nat) : Sl (w.drewN n) v cs := h
theorem Sl.cutTo {w : World} {ao : Option Addr} {m cap : Nat} {cs : List Value} (h : Sl w (.slice ao m cap) cs) (n : Nat) (hn : n ≤ cs.length) : Sl w (.slice ao n cap) (cs.take n) := by
  obtain ⟨_, c, hv, hno, hc, hcell⟩ := h
  obtain ⟨rfl, rfl, rfl⟩ := Value.slice.inj hv
  refine ⟨ao, cap, by rw [List.length_take, Nat.min_eq_left hn], fun h => by rw [hno h]; simp, by rw [List.length_take]; omega, fun a ha j u hu => ?_⟩
  rw [List.getElem?_take] at hu
  split at hu
  · exact hcell a ha j u hu
  · cases hu

theorem _root_.Go.World.ownsRow.below_base {w : World} {b : Nat} {e : TypeId} {size n : Nat} {v : Value} {xs : List Value} (h : w.ownsRow b e size v n xs) (c : Nat) (hc : c ≤ b) : w.ownsRow c e size v n xs := by
  refine ⟨h.1, ?_⟩
  rcases h.2 with hn | ⟨g, cap, cur, rfl, hb, rest⟩
  · exact .inl hn
  · exact .inr ⟨g, cap, cur, rfl, Nat.le_trans hc hb, rest⟩
theorem byteCells_take' (l : List UInt8) (n : Nat) : Lib.byteCells (l.take n) = (Lib.byteCells l).take n := by simp [Lib.byteCells]

set_option maxHeartbeats 1000000 in
theorem crashed_any (v : Value) (bs : List UInt8) (s : Nat) (hs : s ≤ bs.length) (hl : bs.length ≤ 1000000) (keep : Int) (w : World) (hv : Sl w v (Lib.byteCells bs)) (n : Nat) (hn : (n : Int) = (s : Int) + heldI keep ((bs.length : Int) - (s : Int))) :
    Calls Try.prog 39 #[.agg #[v, .int .i64 (s : Int)], .int .i64 keep] w fun e w' => ∃ v', e = .returned (.agg #[v', .int .i64 (n : Int)]) ∧ w'.ownsRow w.heap.size 5 1 v' n (Lib.byteCells (bs.take n)) ∧ Below w.heap.size w w' := by
  obtain ⟨ao, cap, rfl⟩ := hv.form
  rw [Lib.byteCells_length] at hv ⊢
  obtain ⟨x, hx⟩ : ∃ x, x = heldI keep ((bs.length : Int) - (s : Int)) := ⟨_, rfl⟩
  have hx0 : 0 ≤ x ∧ x ≤ (bs.length : Int) - (s : Int) := by rw [hx]; unfold heldI; omega
  rw [← hx] at hn
  have hH := dheld_any keep ((bs.length : Int) - (s : Int))
  rw [← hx] at hH
  have w1 : IntKind.i64.wrap ((bs.length : Int) - (s : Int)) = (bs.length : Int) - (s : Int) := IntWalk.i64_in _ (by omega)
  have w2 : IntKind.i64.wrap ((s : Int) + x) = (n : Int) := by rw [← hn]; exact IntWalk.i64_in _ (by omega)
  have hnl : n ≤ bs.length := by omega
  have HX := hid hx
  have HN := hid hn
  have HH := hid hH
  clear hx hn hH
  go_enter Try.func39, Try.ntmps39
  go_wp2
  go_quiet ((go_at_call 31; exact Calls.quiet_of_same ((HH.out _).mono fun _ _ ⟨h, e⟩ => ⟨h, e.symm⟩)))
  have hcap := hv.cap'
  have i0 : (0 : Int) ≤ (n : Int) := Int.natCast_nonneg _
  have i1 : (n : Int) ≤ (cap : Int) := by omega
  have hS := (((hv.alloc (.cells #[.slice ao bs.length cap, .int .i64 (s : Int)] 57)).alloc (.cells #[.slice none 0 0, .int .i64 0] 57)).drewN' nq).cutTo n (by rw [Lib.byteCells_length]; exact hnl)
  go_wp2_with fail
  refine (Clone_any _ _ _ (by rw [byteCells_take']; exact hS) (by rw [List.length_take]; omega)).mono ?_
  rintro e w' ⟨v', rfl, hown, hb⟩
  have hlt : (bs.take n).length = n := by rw [List.length_take]; omega
  rw [hlt] at hown
  have HO := hid hown
  have HB := hid hb
  have hres := (hb.block (w.heap.size + 1) (by simp)).trans (heap_alloc2_new w _ _)
  obtain ⟨a', c', hv'⟩ := owns_form hown
  subst hv'
  have q0 := blk_cell (i := 0) hres rfl
  have q1 := blk_cell (i := 1) hres rfl
  have p0 := blk_free (i := 0) hres
  have p1 := blk_free (i := 1) hres
  have hz := hb.size
  have hend := blk_set (i := 1) (u := .int .i64 (n : Int)) (blk_set (i := 0) (u := .slice a' n c') hres)
  rw [show ((#[Value.slice none 0 0, Value.int .i64 0] : Array Value).setIfInBounds 0 (Value.slice a' n c')).setIfInBounds 1 (Value.int .i64 (n : Int)) = #[Value.slice a' n c', Value.int .i64 (n : Int)] from rfl] at hend
  have HE := hid hend
  have HR := hid hres
  clear hown hlt hS hb hend hres
  go_wp2
  refine bodyPost_ret (results_cell_row rfl _ _ (w.heap.size + 1) _ _ _ _ rfl HE.out Try.underlying57 rfl Try.sizeContent) rfl ⟨_, rfl, ?_, ?_⟩
  · have hne : ∀ k, (Value.slice a' n c').ownBlock = some k → k ≠ w.heap.size + 1 := by
      intro k e
      have := (HO.out.lt k e).1
      simp at this
      omega
    have h1 := HO.out.below_base w.heap.size (by simp; omega)
    exact ownsRow_setCell_other (ownsRow_setCell_other h1 (a := ⟨w.heap.size + 1, 0, none⟩) (fun e => hne _ e rfl) _) (a := ⟨w.heap.size + 1, 1, none⟩) (fun e => hne _ e rfl) _
  · have h0 : Below w.heap.size w (((w.alloc (.cells #[.slice ao bs.length cap, .int .i64 (s : Int)] 57)).alloc (.cells #[.slice none 0 0, .int .i64 0] 57)).drewN nq) := below_drewN (((Below.refl _ _).alloc (Nat.le_refl _) _).alloc (by simp) _) nq
    exact ((below_step h0 HB.out h0.size).setCell (p := ⟨w.heap.size + 1, 0, none⟩) (Nat.le_succ _) _).setCell (p := ⟨w.heap.size + 1, 1, none⟩) (Nat.le_succ _) _

set_option maxHeartbeats 1000000 in
theorem copied_any (v : Value) (bs : List UInt8) (s : Int) (hl : bs.length ≤ 1000000) (w : World) (hv : Sl w v (Lib.byteCells bs)) :
    Calls Try.prog 40 #[.agg #[v, .int .i64 s]] w fun e w' => ∃ v', e = .returned (.agg #[v', .int .i64 s]) ∧ w'.ownsRow w.heap.size 5 1 v' bs.length (Lib.byteCells bs) ∧ Below w.heap.size w w' := by
  obtain ⟨ao, cap, rfl⟩ := hv.form
  rw [Lib.byteCells_length] at hv ⊢
  go_enter Try.func40, Try.ntmps40
  have hS := ((hv.alloc (.cells #[.slice ao bs.length cap, .int .i64 s] 57)).alloc (.cells #[.slice none 0 0, .int .i64 0] 57))
  have HS := hid hS
  obtain ⟨W, hW⟩ : ∃ W, W = (w.alloc (.cells #[.slice ao bs.length cap, .int .i64 s] 57)).alloc (.cells #[.slice none 0 0, .int .i64 0] 57) := ⟨_, rfl⟩
  have h0 : Below w.heap.size w W := by rw [hW]; exact ((Below.refl _ _).alloc (Nat.le_refl _) _).alloc (by simp) _
  have hz : W.heap.size = w.heap.size + 2 := by rw [hW]; simp
  have hin : W.heap[w.heap.size]? = some (.cells #[.slice ao bs.length cap, .int .i64 s] 57 (0, 0)) := by rw [hW]; exact heap_alloc2_old w _ _
  have hres : W.heap[w.heap.size + 1]? = some (.cells #[.slice none 0 0, .int .i64 0] 57 (0, 0)) := by rw [hW]; exact heap_alloc2_new w _ _
  have HW := hid hW
  rw [← hW] at hS
  have HC := hid (Clone_any _ _ W.drew (show Sl W.drew _ _ from hS) (by omega))
  have HIN := hid hin
  have HRES := hid hres
  have HZ := hid hz
  clear hW hS hv hin hres hz HS
  go_wp2
  rw [← HW.out]
  have c0 : W.cell? ⟨w.heap.size, 0, none⟩ = some (.slice ao bs.length cap) := blk_cell HIN.out rfl
  have c1 : W.cell? ⟨w.heap.size, 1, none⟩ = some (.int .i64 s) := blk_cell HIN.out rfl
  go_region_held3 (fun wy => wy.cell? ⟨w.heap.size, 0, none⟩ = some (.slice ao bs.length cap) ∧ wy.cell? ⟨w.heap.size, 1, none⟩ = some (.int .i64 s)) (go_keep) ((go_at_call 46; refine HC.out.mono ?_; rintro e w' ⟨v', rfl, hown, hb⟩; have HO := hid hown; have HB := hid hb; have hi' := (hb.block w.heap.size (by show w.heap.size < W.heap.size; rw [HZ.out]; omega)).trans HIN.out; have hr' := (hb.block (w.heap.size + 1) (by show w.heap.size + 1 < W.heap.size; rw [HZ.out]; omega)).trans HRES.out; have q0 := blk_cell (i := 0) hi' rfl; have q1 := blk_cell (i := 1) hi' rfl; have r0 := blk_cell (i := 0) hr' rfl; have r1 := blk_cell (i := 1) hr' rfl; have p0 := blk_free (i := 0) hr'; have p1 := blk_free (i := 1) hr'; have HR := hid hr'; obtain ⟨a', c', hv'⟩ := owns_form hown; subst hv'; clear hown hb hi' hr'))
  have hend := blk_set (i := 1) (u := .int .i64 s) (blk_set (i := 0) (u := .slice a' bs.length c') HR.out)
  rw [show ((#[Value.slice none 0 0, Value.int .i64 0] : Array Value).setIfInBounds 0 (Value.slice a' bs.length c')).setIfInBounds 1 (Value.int .i64 s) = #[Value.slice a' bs.length c', Value.int .i64 s] from rfl] at hend
  have HE := hid hend
  clear hend
  go_wp2
  refine bodyPost_ret (results_cell_row rfl _ _ (w.heap.size + 1) _ _ _ _ rfl HE.out Try.underlying57 rfl Try.sizeContent) rfl ⟨_, rfl, ?_, ?_⟩
  · have hne : ∀ k, (Value.slice a' bs.length c').ownBlock = some k → k ≠ w.heap.size + 1 := by
      intro k e
      have h1 := (HO.out.lt k e).1
      have h2 := HZ.out
      change W.heap.size ≤ k at h1
      omega
    have h1 := HO.out.below_base w.heap.size (by show w.heap.size ≤ W.heap.size; rw [HZ.out]; omega)
    exact ownsRow_setCell_other (ownsRow_setCell_other h1 (a := ⟨w.heap.size + 1, 0, none⟩) (fun e => hne _ e rfl) _) (a := ⟨w.heap.size + 1, 1, none⟩) (fun e => hne _ e rfl) _
  · exact ((below_step (below_drewN h0 1) HB.out h0.size).setCell (p := ⟨w.heap.size + 1, 0, none⟩) (Nat.le_succ _) _).setCell (p := ⟨w.heap.size + 1, 1, none⟩) (Nat.le_succ _) _
end Go.Proofs.Ytblhabiginckbaa
