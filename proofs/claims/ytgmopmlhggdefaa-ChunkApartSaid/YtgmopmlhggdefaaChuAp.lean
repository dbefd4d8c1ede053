/-
  ChunkApart: changes that stand apart, a line that both keep between them, come together without a conflict.
-/
import Derived.Test.YtgmopmlhggdefaaCkAw
import Derived.Test.YtgmopmlhggdefaaCkJ
import Derived.Test.YtgmopmlhggdefaaInS
import Derived.Test.YtgmopmlhggdefaaOpenS
import Derived.Test.YtgmopmlhggdefaaStr
import Derived.Test.YtgmopmlhggdefaaRdfU
import Derived.ProofKit
import Derived.OpenShut
namespace Go.Proofs.Ytgmopmlhggdefaa.chunkApart
open Go.ChangeShapes Go.WideShapes Go.ChangeAt Go.RowKit

section
set_option maxRecDepth 100000
set_option maxHeartbeats 4000000
theorem walk (va : Value) (a : List (List UInt8)) (vb : Value) (b : List (List UInt8)) (vx : Value) (x : List (List UInt8)) (vy : Value) (y : List (List UInt8)) (mid : List UInt8) (w : World) (ha : FactStrs w va a) (hb : FactStrs w vb b) (hx : FactStrs w vx x) (hy : FactStrs w vy y) (_hm : mid.length ≤ maxLen) :
    Calls Try.prog 7 #[va, vb, vx, vy, strV mid] w fun e w' => e = .returned (.bool true) ∧ Below w.heap.size w w' := by
  have HA := hid ha.1
  have HB := hid hb.1
  have HX := hid hx.1
  have HY := hid hy.1
  have hxm := hx.2.1
  have hym := hy.2.1
  unfold maxLen at hxm hym
  clear ha hb hx hy
  obtain ⟨ao, ac, rfl⟩ := HA.out.form
  obtain ⟨bo, bc, rfl⟩ := HB.out.form
  obtain ⟨xo, xc, rfl⟩ := HX.out.form
  obtain ⟨yo, yc, rfl⟩ := HY.out.form
  have hFEW := cfew_any _ _ (.slice none 0 0) a b [] w HA.out HB.out (Sl.nil _)
  rw [strCells_length] at HA HB HX HY hFEW ⊢
  rw [strCells_length] at hFEW ⊢
  rw [strCells_length, strCells_length]
  have hBW := Below.refl w.heap.size w
  have msz : (⟨mid.toArray⟩ : ByteArray).size = mid.length := by simp [ByteArray.size]
  have mst : strV mid = .string ⟨mid.toArray⟩ := rfl
  rw [mst]
  rcases (show (¬ (a.length ≤ 60 ∧ b.length ≤ 60 ∧ ([] : List (List UInt8)).length ≤ 60)) ∨ ((a.length ≤ 60 ∧ b.length ≤ 60 ∧ ([] : List (List UInt8)).length ≤ 60) ∧ 20 < x.length) ∨ ((a.length ≤ 60 ∧ b.length ≤ 60 ∧ ([] : List (List UInt8)).length ≤ 60) ∧ ¬ 20 < x.length ∧ 20 < y.length) ∨ ((a.length ≤ 60 ∧ b.length ≤ 60 ∧ ([] : List (List UInt8)).length ≤ 60) ∧ ¬ 20 < x.length ∧ ¬ 20 < y.length ∧ 50 < mid.length) ∨ ((a.length ≤ 60 ∧ b.length ≤ 60 ∧ ([] : List (List UInt8)).length ≤ 60) ∧ ¬ 20 < x.length ∧ ¬ 20 < y.length ∧ ¬ 50 < mid.length) by omega) with hf | ⟨hf, h1⟩ | ⟨hf, h1, h2⟩ | ⟨hf, h1, h2, h3⟩ | ⟨hf, h1, h2, h3⟩
  · rw [decide_eq_false hf] at hFEW
    have HFEW := hid hFEW
    clear hf hFEW
    go_enter Try.func7, Try.ntmps7
    go_wp2_with fail
    refine HFEW.out.mono ?_
    rintro e w1 ⟨rfl, rfl⟩
    go_wp2_with (go_at_call 10; refine (awake_any _).mono ?_; rintro e w2 ⟨rfl, hb⟩)
    go_ret
    exact ⟨rfl, below_step hBW hb hBW.size⟩
  · rw [decide_eq_true hf] at hFEW
    have HFEW := hid hFEW
    clear hf hFEW
    have d1 : decide (20 < (x.length : Int)) = true := decide_eq_true (by omega)
    go_enter Try.func7, Try.ntmps7
    go_wp2_with fail
    refine HFEW.out.mono ?_
    rintro e w1 ⟨rfl, rfl⟩
    go_wp2_with (go_at_call 10; refine (awake_any _).mono ?_; rintro e w2 ⟨rfl, hb⟩)
    go_ret
    exact ⟨rfl, below_step hBW hb hBW.size⟩
  · rw [decide_eq_true hf] at hFEW
    have HFEW := hid hFEW
    clear hf hFEW
    have d1 : decide (20 < (x.length : Int)) = false := decide_eq_false (by omega)
    have d2 : decide (20 < (y.length : Int)) = true := decide_eq_true (by omega)
    go_enter Try.func7, Try.ntmps7
    go_wp2_with fail
    refine HFEW.out.mono ?_
    rintro e w1 ⟨rfl, rfl⟩
    go_wp2_with (go_at_call 10; refine (awake_any _).mono ?_; rintro e w2 ⟨rfl, hb⟩)
    go_ret
    exact ⟨rfl, below_step hBW hb hBW.size⟩
  · rw [decide_eq_true hf] at hFEW
    have HFEW := hid hFEW
    clear hf hFEW
    have d1 : decide (20 < (x.length : Int)) = false := decide_eq_false (by omega)
    have d2 : decide (20 < (y.length : Int)) = false := decide_eq_false (by omega)
    have d3 : decide (50 < (mid.length : Int)) = true := decide_eq_true (by omega)
    go_enter Try.func7, Try.ntmps7
    go_wp2_with fail
    refine HFEW.out.mono ?_
    rintro e w1 ⟨rfl, rfl⟩
    go_wp2_with (go_at_call 10; refine (awake_any _).mono ?_; rintro e w2 ⟨rfl, hb⟩)
    go_ret
    exact ⟨rfl, below_step hBW hb hBW.size⟩
  rw [decide_eq_true hf] at hFEW
  have HFEW := hid hFEW
  have HN := hid (show a.length ≤ 60 ∧ b.length ≤ 60 ∧ x.length ≤ 20 ∧ y.length ≤ 20 by omega)
  have d1 : decide (20 < (x.length : Int)) = false := decide_eq_false (by omega)
  have d2 : decide (20 < (y.length : Int)) = false := decide_eq_false (by omega)
  have d3 : decide (50 < (mid.length : Int)) = false := decide_eq_false (by omega)
  have ad1 := fun wx => (run_str_add (P := Try.prog) mid [35] (by simp; omega) wx : (Op.stringOp .add ⟨mid.toArray⟩ ⟨#[35]⟩).run Try.prog wx = .ok (.string ⟨(mid ++ [35]).toArray⟩) wx)
  obtain ⟨s, hs⟩ : ∃ s, mid ++ [35] = s := ⟨_, rfl⟩
  rw [hs] at ad1
  clear hf hFEW h1 h2 h3 hxm hym hs
  have hBW : Below w.heap.size w (w.alloc (.cells #[.string ⟨s.toArray⟩] 9)) := hBW.alloc (Nat.le_refl _) _
  have hsb := heap_alloc_new w (.cells #[.string ⟨s.toArray⟩] 9)
  have HA := hid (Sl.old HA.out hBW)
  have HB := hid (Sl.old HB.out hBW)
  have HX := hid (Sl.old HX.out hBW)
  have HY := hid (Sl.old HY.out hBW)
  have HZ := hid (show w.heap.size < (w.alloc (.cells #[.string ⟨s.toArray⟩] 9)).heap.size by simp)
  go_enter Try.func7, Try.ntmps7
  go_wp2_with fail
  refine HFEW.out.mono ?_
  rintro e w1 ⟨rfl, rfl⟩
  clear HFEW
  go_wp2_with fail
  generalize w.alloc (.cells #[.string ⟨s.toArray⟩] 9) = w0 at hBW hsb HA HB HX HY HZ ⊢
  have hI := SIn_any _ a s w0 HA.out (by have := HN.out.1; omega)
  by_cases m0 : s ∈ a
  · rw [decide_eq_true m0] at hI
    have HI := hid hI
    clear hI m0
    refine HI.out.mono ?_
    rintro e wy ⟨rfl, q, rfl⟩
    have hBW : Below w.heap.size w (w0.drewN q) := below_step hBW (below_drewN _ _) hBW.size
    generalize w0.drewN q = wy at hBW ⊢
    go_wp2_with (go_at_call 10; refine (awake_any _).mono ?_; rintro e w2 ⟨rfl, hb⟩)
    go_ret
    exact ⟨rfl, below_step hBW hb hBW.size⟩
  rw [decide_eq_false m0] at hI
  have HI := hid hI
  have M0 := hid m0
  clear hI m0
  refine HI.out.mono ?_
  rintro e wy ⟨rfl, q, rfl⟩
  have hb : Below w0.heap.size w0 (w0.drewN q) := below_drewN _ _
  have hBW := below_step hBW hb hBW.size
  have hsb : (w0.drewN q).heap[w.heap.size]? = _ := hsb
  have HA := hid (Sl.old HA.out hb)
  have HB := hid (Sl.old HB.out hb)
  have HX := hid (Sl.old HX.out hb)
  have HY := hid (Sl.old HY.out hb)
  have HZ := hid (show w.heap.size < (w0.drewN q).heap.size from HZ.out)
  clear hb HI
  generalize w0.drewN q = w1 at hBW hsb HA HB HX HY HZ ⊢
  have hcs := blk_cell (i := 0) hsb rfl
  go_wp2_with fail
  have hI := SIn_any _ b s w1 HB.out (by have := HN.out.2.1; omega)
  by_cases m1 : s ∈ b
  · rw [decide_eq_true m1] at hI
    have HI := hid hI
    clear hI m1
    refine HI.out.mono ?_
    rintro e wy ⟨rfl, q, rfl⟩
    have hBW : Below w.heap.size w (w1.drewN q) := below_step hBW (below_drewN _ _) hBW.size
    generalize w1.drewN q = wy at hBW ⊢
    go_wp2_with (go_at_call 10; refine (awake_any _).mono ?_; rintro e w2 ⟨rfl, hb⟩)
    go_ret
    exact ⟨rfl, below_step hBW hb hBW.size⟩
  rw [decide_eq_false m1] at hI
  have HI := hid hI
  have M1 := hid m1
  clear hI m1
  refine HI.out.mono ?_
  rintro e wy ⟨rfl, q, rfl⟩
  have hb : Below w1.heap.size w1 (w1.drewN q) := below_drewN _ _
  have hBW := below_step hBW hb hBW.size
  have hsb : (w1.drewN q).heap[w.heap.size]? = _ := hsb
  have HA := hid (Sl.old HA.out hb)
  have HB := hid (Sl.old HB.out hb)
  have HX := hid (Sl.old HX.out hb)
  have HY := hid (Sl.old HY.out hb)
  have HZ := hid (show w.heap.size < (w1.drewN q).heap.size from HZ.out)
  clear hb HI
  generalize w1.drewN q = w2 at hBW hsb HA HB HX HY HZ ⊢
  have hcs := blk_cell (i := 0) hsb rfl
  go_wp2_with fail
  have hI := SIn_any _ x s w2 HX.out (by have := HN.out.2.2.1; omega)
  by_cases m2 : s ∈ x
  · rw [decide_eq_true m2] at hI
    have HI := hid hI
    clear hI m2
    refine HI.out.mono ?_
    rintro e wy ⟨rfl, q, rfl⟩
    have hBW : Below w.heap.size w (w2.drewN q) := below_step hBW (below_drewN _ _) hBW.size
    generalize w2.drewN q = wy at hBW ⊢
    go_wp2_with (go_at_call 10; refine (awake_any _).mono ?_; rintro e w2 ⟨rfl, hb⟩)
    go_ret
    exact ⟨rfl, below_step hBW hb hBW.size⟩
  rw [decide_eq_false m2] at hI
  have HI := hid hI
  have M2 := hid m2
  clear hI m2
  refine HI.out.mono ?_
  rintro e wy ⟨rfl, q, rfl⟩
  have hb : Below w2.heap.size w2 (w2.drewN q) := below_drewN _ _
  have hBW := below_step hBW hb hBW.size
  have hsb : (w2.drewN q).heap[w.heap.size]? = _ := hsb
  have HA := hid (Sl.old HA.out hb)
  have HB := hid (Sl.old HB.out hb)
  have HX := hid (Sl.old HX.out hb)
  have HY := hid (Sl.old HY.out hb)
  have HZ := hid (show w.heap.size < (w2.drewN q).heap.size from HZ.out)
  clear hb HI
  generalize w2.drewN q = w3 at hBW hsb HA HB HX HY HZ ⊢
  have hcs := blk_cell (i := 0) hsb rfl
  go_wp2_with fail
  have hI := SIn_any _ y s w3 HY.out (by have := HN.out.2.2.2; omega)
  by_cases m3 : s ∈ y
  · rw [decide_eq_true m3] at hI
    have HI := hid hI
    clear hI m3
    refine HI.out.mono ?_
    rintro e wy ⟨rfl, q, rfl⟩
    have hBW : Below w.heap.size w (w3.drewN q) := below_step hBW (below_drewN _ _) hBW.size
    generalize w3.drewN q = wy at hBW ⊢
    go_wp2_with (go_at_call 10; refine (awake_any _).mono ?_; rintro e w2 ⟨rfl, hb⟩)
    go_ret
    exact ⟨rfl, below_step hBW hb hBW.size⟩
  rw [decide_eq_false m3] at hI
  have HI := hid hI
  have M3 := hid m3
  clear hI m3
  refine HI.out.mono ?_
  rintro e wy ⟨rfl, q, rfl⟩
  have hb : Below w3.heap.size w3 (w3.drewN q) := below_drewN _ _
  have hBW := below_step hBW hb hBW.size
  have hsb : (w3.drewN q).heap[w.heap.size]? = _ := hsb
  have HA := hid (Sl.old HA.out hb)
  have HB := hid (Sl.old HB.out hb)
  have HX := hid (Sl.old HX.out hb)
  have HY := hid (Sl.old HY.out hb)
  have HZ := hid (show w.heap.size < (w3.drewN q).heap.size from HZ.out)
  clear hb HI
  generalize w3.drewN q = w4 at hBW hsb HA HB HX HY HZ ⊢
  have hcs := blk_cell (i := 0) hsb rfl
  go_wp2_with fail
  have hmf : ∀ (fn : Fn) (first cap : Array Value) (w : World), (Instr.makeFunc fn first cap).run Try.prog w = .ok (.func fn first cap) w := fun _ _ _ _ => rfl
  go_wp2_with fail
  have HF := hid (chunks_few (a := a ++ s :: b) (b := x ++ s :: b) (c := a ++ s :: y) (by have := HN.out; simp; omega) (by have := HN.out; simp; omega) (by have := HN.out; simp; omega))
  have HL := hid (chunks_apart (a := a) (b := b) (x := x) (y := y) (s := s) M0.out M1.out M2.out (by have := HN.out; simp; omega) (by have := HN.out; simp; omega) (by have := HN.out; simp; omega))
  have HLC := hid (show 1 ≤ lcs (a ++ s :: b) (x ++ s :: y) from lcs_most _ _ [s] (List.singleton_sublist.2 (by simp)) (List.singleton_sublist.2 (by simp)))
  clear M0 M1 M2 M3 hsb HZ
  have hJ := CJoin_any _ _ a b s w.heap.size w4 HA.out HB.out hcs (by have := HN.out.1; omega) (by have := HN.out.2.1; omega)
  refine (hJ).mono ?_
  rintro e z1 ⟨v1, rfl, s1, hb⟩
  have hcs := (World.cell?_of_block (w := w4) (Below.block (hb : Below w4.heap.size w4 _) _ (World.block_lt_of_cell? w4 _ hcs))).trans hcs
  have hB1 := below_step hBW hb hBW.size
  have HA := hid (Sl.old HA.out hb)
  have HB := hid (Sl.old HB.out hb)
  have HX := hid (Sl.old HX.out hb)
  have HY := hid (Sl.old HY.out hb)
  obtain ⟨o1, c1, rfl⟩ := s1.form
  have J1 := hid s1
  clear hb s1 hBW
  clear hJ
  have hJ := CJoin_any _ _ x b s w.heap.size z1 HX.out HB.out hcs (by have := HN.out.2.2.1; omega) (by have := HN.out.2.1; omega)
  go_wp2_with fail
  refine (hJ).mono ?_
  rintro e z2 ⟨v2, rfl, s2, hb⟩
  have hcs := (World.cell?_of_block (w := z1) (Below.block (hb : Below z1.heap.size z1 _) _ (World.block_lt_of_cell? z1 _ hcs))).trans hcs
  have hB2 := below_step hB1 hb hB1.size
  have HA := hid (Sl.old HA.out hb)
  have HB := hid (Sl.old HB.out hb)
  have HX := hid (Sl.old HX.out hb)
  have HY := hid (Sl.old HY.out hb)
  have J1 := hid (Sl.old J1.out hb)
  obtain ⟨o2, c2, rfl⟩ := s2.form
  have J2 := hid s2
  clear hb s2 hB1
  clear hJ
  have hJ := CJoin_any _ _ a y s w.heap.size z2 HA.out HY.out hcs (by have := HN.out.1; omega) (by have := HN.out.2.2.2; omega)
  go_wp2_with fail
  refine (hJ).mono ?_
  rintro e z3 ⟨v3, rfl, s3, hb⟩
  have hcs := (World.cell?_of_block (w := z2) (Below.block (hb : Below z2.heap.size z2 _) _ (World.block_lt_of_cell? z2 _ hcs))).trans hcs
  have hB3 := below_step hB2 hb hB2.size
  have HA := hid (Sl.old HA.out hb)
  have HB := hid (Sl.old HB.out hb)
  have HX := hid (Sl.old HX.out hb)
  have HY := hid (Sl.old HY.out hb)
  have J1 := hid (Sl.old J1.out hb)
  have J2 := hid (Sl.old J2.out hb)
  obtain ⟨o3, c3, rfl⟩ := s3.form
  have J3 := hid s3
  clear hb s3 hB2
  clear hJ
  go_wp2_with fail
  refine (DOf_any _ _ _ _ _ _ z3 J1.out J2.out J3.out (by have := HN.out; simp; omega) (by have := HN.out; simp; omega) (by have := HN.out; simp; omega)).mono ?_
  rintro e z4 ⟨v4, rfl, s4, hb⟩
  have hcs := (World.cell?_of_block (w := z3) (Below.block (hb : Below z3.heap.size z3 _) _ (World.block_lt_of_cell? z3 _ hcs))).trans hcs
  have hB4 := below_step hB3 hb hB3.size
  have HA := hid (Sl.old HA.out hb)
  have HB := hid (Sl.old HB.out hb)
  have HX := hid (Sl.old HX.out hb)
  have HY := hid (Sl.old HY.out hb)
  have J1 := hid (Sl.old J1.out hb)
  have J2 := hid (Sl.old J2.out hb)
  have J3 := hid (Sl.old J3.out hb)
  obtain ⟨o4, c4, rfl⟩ := s4.form
  have C := hid s4
  clear hb s4 hB3
  clear J1 J2 J3
  go_wp2_with fail
  have hT := awake_any z4
  refine hT.mono ?_
  rintro e z5 ⟨rfl, hb⟩
  have hcs := (World.cell?_of_block (w := z4) (Below.block (hb : Below z4.heap.size z4 _) _ (World.block_lt_of_cell? z4 _ hcs))).trans hcs
  have hB5 := below_step hB4 hb hB4.size
  have HA := hid (Sl.old HA.out hb)
  have HB := hid (Sl.old HB.out hb)
  have HX := hid (Sl.old HX.out hb)
  have HY := hid (Sl.old HY.out hb)
  have C := hid (C.out.old hb)
  clear hb hT hB4
  go_wp2_with fail
  have hT := DClean_any _ _ z5 C.out (by have := HF.out.2.1; omega)
  rw [HL.out.1] at hT
  refine hT.mono ?_
  rintro e z6 ⟨rfl, hb⟩
  have hcs := (World.cell?_of_block (w := z5) (Below.block (hb : Below z5.heap.size z5 _) _ (World.block_lt_of_cell? z5 _ hcs))).trans hcs
  have hB6 := below_step hB5 hb hB5.size
  have HA := hid (Sl.old HA.out hb)
  have HB := hid (Sl.old HB.out hb)
  have HX := hid (Sl.old HX.out hb)
  have HY := hid (Sl.old HY.out hb)
  have C := hid (C.out.old hb)
  clear hb hT hB5
  go_wp2_with fail
  refine (DMerged_any _ _ z6 C.out (by have := HF.out.2.2; have := HN.out; simp only [List.length_append, List.length_cons] at *; omega) HF.out.1).mono ?_
  rintro e z7 ⟨v7, rfl, s7, hb⟩
  have hcs := (World.cell?_of_block (w := z6) (Below.block (hb : Below z6.heap.size z6 _) _ (World.block_lt_of_cell? z6 _ hcs))).trans hcs
  have hB7 := below_step hB6 hb hB6.size
  have HA := hid (Sl.old HA.out hb)
  have HB := hid (Sl.old HB.out hb)
  have HX := hid (Sl.old HX.out hb)
  have HY := hid (Sl.old HY.out hb)
  have C := hid (C.out.old hb)
  obtain ⟨o7, c7, rfl⟩ := s7.form
  rw [HL.out.2] at s7 ⊢
  have M := hid s7
  clear hb s7 hB6
  clear C
  have hJ := CJoin_any _ _ x y s w.heap.size z7 HX.out HY.out hcs (by have := HN.out.2.2.1; omega) (by have := HN.out.2.2.2; omega)
  go_wp2_with fail
  refine (hJ).mono ?_
  rintro e z8 ⟨v8, rfl, s8, hb⟩
  have hcs := (World.cell?_of_block (w := z7) (Below.block (hb : Below z7.heap.size z7 _) _ (World.block_lt_of_cell? z7 _ hcs))).trans hcs
  have hB8 := below_step hB7 hb hB7.size
  have HA := hid (Sl.old HA.out hb)
  have HB := hid (Sl.old HB.out hb)
  have HX := hid (Sl.old HX.out hb)
  have HY := hid (Sl.old HY.out hb)
  have M := hid (Sl.old M.out hb)
  obtain ⟨o8, c8, rfl⟩ := s8.form
  have J4 := hid s8
  clear hb s8 hB7
  clear hJ
  go_wp2_with fail
  have hT := SPlain_any _ _ _ _ z8 M.out J4.out (by have := HN.out; unfold maxLen; simp; omega)
  rw [beq_self_eq_true] at hT
  refine hT.mono ?_
  rintro e _ ⟨rfl, q9, rfl⟩
  have hb : Below z8.heap.size z8 (z8.drewN q9) := below_drewN _ _
  have hcs := (World.cell?_of_block (w := z8) (Below.block (hb : Below z8.heap.size z8 _) _ (World.block_lt_of_cell? z8 _ hcs))).trans hcs
  have hB9 := below_step hB8 hb hB8.size
  have HA := hid (Sl.old HA.out hb)
  have HB := hid (Sl.old HB.out hb)
  have HX := hid (Sl.old HX.out hb)
  have HY := hid (Sl.old HY.out hb)
  have M := hid (Sl.old M.out hb)
  have J4 := hid (Sl.old J4.out hb)
  clear hb hT hB8
  generalize z8.drewN q9 = z9 at hB9 HA HB HX HY M J4 hcs ⊢
  clear M J4
  have hJ := CJoin_any _ _ a b s w.heap.size z9 HA.out HB.out hcs (by have := HN.out.1; omega) (by have := HN.out.2.1; omega)
  go_wp2_with fail
  refine (hJ).mono ?_
  rintro e z10 ⟨v10, rfl, s10, hb⟩
  have hcs := (World.cell?_of_block (w := z9) (Below.block (hb : Below z9.heap.size z9 _) _ (World.block_lt_of_cell? z9 _ hcs))).trans hcs
  have hB10 := below_step hB9 hb hB9.size
  have HA := hid (Sl.old HA.out hb)
  have HB := hid (Sl.old HB.out hb)
  have HX := hid (Sl.old HX.out hb)
  have HY := hid (Sl.old HY.out hb)
  obtain ⟨o10, c10, rfl⟩ := s10.form
  have J5 := hid s10
  clear hb s10 hB9
  clear hJ
  have hJ := CJoin_any _ _ x y s w.heap.size z10 HX.out HY.out hcs (by have := HN.out.2.2.1; omega) (by have := HN.out.2.2.2; omega)
  go_wp2_with fail
  refine (hJ).mono ?_
  rintro e z11 ⟨v11, rfl, s11, hb⟩
  have hcs := (World.cell?_of_block (w := z10) (Below.block (hb : Below z10.heap.size z10 _) _ (World.block_lt_of_cell? z10 _ hcs))).trans hcs
  have hB11 := below_step hB10 hb hB10.size
  have HA := hid (Sl.old HA.out hb)
  have HB := hid (Sl.old HB.out hb)
  have HX := hid (Sl.old HX.out hb)
  have HY := hid (Sl.old HY.out hb)
  have J5 := hid (Sl.old J5.out hb)
  obtain ⟨o11, c11, rfl⟩ := s11.form
  have J6 := hid s11
  clear hb s11 hB10
  clear hJ
  go_wp2_with fail
  have hT := RCommon_any _ _ _ _ z11 J5.out J6.out (by have := HN.out; simp; omega) (by have := HN.out; simp; omega)
  refine hT.mono ?_
  rintro e z12 ⟨rfl, hb⟩
  have hBZ := below_step hB11 hb hB11.size
  have hlc := HLC.out
  have hge : ((1 : Int) ≤ ((lcs (a ++ s :: b) (x ++ s :: y) : Nat) : Int)) := by omega
  have hge2 : decide ((1 : Int) ≤ ((lcs (a ++ s :: b) (x ++ s :: y) : Nat) : Int)) = true := decide_eq_true hge
  generalize lcs (a ++ s :: b) (x ++ s :: y) = n at hge hge2 hlc ⊢
  go_wp2_with fail
  go_ret
  exact ⟨by simp, hBZ⟩
end

theorem own : ownKnob Try.prog.godebug = none := by kernel_rfl
theorem laidOut : laidOutB Try.prog = true := by kernel_rfl

theorem contract (H : Type) (enc : TypeId × Value → H) (W : World) (base : Nat) (args : Array Value) (ds gs : List (DataW H)) (before : List MemPlace)
    (hval : ∀ (j : Nat) t v, Try.f7.params[j]? = some t → args[j]? = some v → Value.okWide Try.prog W .any base t v)
    (hW : DataW.Whole enc Try.prog Try.f7.params.toList Rows.chunkApartSpec.vars false W args.toList ds gs before) :
    Calls Try.prog 7 args W fun e W' => ∃ v, e = .returned v ∧ Rows.chunkApartSpec.post enc Try.prog Try.f7 false true false false W args v W' := by
  have hW' := hW
  obtain ⟨p, q, hA0, hV, rfl, hfz, hnd⟩ := hW
  have hA : DataW.TrodAll enc Try.prog W 0 (fun _ => true) true Try.f7.params.toList args.toList ds p := hA0
  rw [Try.params7] at hA hval
  obtain ⟨v0, vs0, d0, ds0, p0, q0, hargs, rfl, rfl, h0, r0⟩ := trodAll_cons hA
  obtain ⟨v1, vs1, d1, ds1, p1, q1, rfl, rfl, rfl, h1, r1⟩ := trodAll_cons r0
  obtain ⟨v2, vs2, d2, ds2, p2, q2, rfl, rfl, rfl, h2, r2⟩ := trodAll_cons r1
  obtain ⟨v3, vs3, d3, ds3, p3, q3, rfl, rfl, rfl, h3, r3⟩ := trodAll_cons r2
  obtain ⟨v4, vs4, d4, ds4, p4, q4, rfl, rfl, rfl, h4, r4⟩ := trodAll_cons r3
  obtain ⟨rfl, rfl, rfl⟩ := trodAll_nil r4
  obtain rfl : args = #[v0, v1, v2, v3, v4] := by cases args; simp_all
  obtain ⟨rfl, rfl⟩ := trodVars_none hV
  have k0 := h0
  have lt0 : ∀ x ∈ p0, x.block < W.heap.size := by obtain ⟨m, hm⟩ := k0; exact DataW.trod_lt m _ _ _ hm
  obtain ⟨x0, l0, c0, rfl⟩ := okWide_slice Try.underlying22 (hval 0 22 v0 rfl rfl)
  obtain ⟨a0, w0, e0⟩ : ∃ a, FactStrs W (.slice x0 l0 c0) a ∧ ((d0 = .nil ∧ a = []) ∨ ∃ rest, d0 = .slice (dataStrs a) rest) := by
    obtain ⟨fuel, hf⟩ := h0
    obtain ⟨v', a, hcs, hs, hx⟩ := open_strL Try.underlying22 Try.underlying9 (by kernel_rfl) hf
    obtain rfl : v' = .slice x0 l0 c0 := by simpa [Value.cells] using hcs.symm
    exact ⟨a, hs, hx⟩
  clear e0
  have k1 := h1
  have lt1 : ∀ x ∈ p1, x.block < W.heap.size := by obtain ⟨m, hm⟩ := k1; exact DataW.trod_lt m _ _ _ hm
  obtain ⟨x1, l1, c1, rfl⟩ := okWide_slice Try.underlying22 (hval 1 22 v1 rfl rfl)
  obtain ⟨a1, w1, e1⟩ : ∃ a, FactStrs W (.slice x1 l1 c1) a ∧ ((d1 = .nil ∧ a = []) ∨ ∃ rest, d1 = .slice (dataStrs a) rest) := by
    obtain ⟨fuel, hf⟩ := h1
    obtain ⟨v', a, hcs, hs, hx⟩ := open_strL Try.underlying22 Try.underlying9 (by kernel_rfl) hf
    obtain rfl : v' = .slice x1 l1 c1 := by simpa [Value.cells] using hcs.symm
    exact ⟨a, hs, hx⟩
  clear e1
  have k2 := h2
  have lt2 : ∀ x ∈ p2, x.block < W.heap.size := by obtain ⟨m, hm⟩ := k2; exact DataW.trod_lt m _ _ _ hm
  obtain ⟨x2, l2, c2, rfl⟩ := okWide_slice Try.underlying22 (hval 2 22 v2 rfl rfl)
  obtain ⟨a2, w2, e2⟩ : ∃ a, FactStrs W (.slice x2 l2 c2) a ∧ ((d2 = .nil ∧ a = []) ∨ ∃ rest, d2 = .slice (dataStrs a) rest) := by
    obtain ⟨fuel, hf⟩ := h2
    obtain ⟨v', a, hcs, hs, hx⟩ := open_strL Try.underlying22 Try.underlying9 (by kernel_rfl) hf
    obtain rfl : v' = .slice x2 l2 c2 := by simpa [Value.cells] using hcs.symm
    exact ⟨a, hs, hx⟩
  clear e2
  have k3 := h3
  have lt3 : ∀ x ∈ p3, x.block < W.heap.size := by obtain ⟨m, hm⟩ := k3; exact DataW.trod_lt m _ _ _ hm
  obtain ⟨x3, l3, c3, rfl⟩ := okWide_slice Try.underlying22 (hval 3 22 v3 rfl rfl)
  obtain ⟨a3, w3, e3⟩ : ∃ a, FactStrs W (.slice x3 l3 c3) a ∧ ((d3 = .nil ∧ a = []) ∨ ∃ rest, d3 = .slice (dataStrs a) rest) := by
    obtain ⟨fuel, hf⟩ := h3
    obtain ⟨v', a, hcs, hs, hx⟩ := open_strL Try.underlying22 Try.underlying9 (by kernel_rfl) hf
    obtain rfl : v' = .slice x3 l3 c3 := by simpa [Value.cells] using hcs.symm
    exact ⟨a, hs, hx⟩
  clear e3
  have k4 := h4
  have lt4 : ∀ x ∈ p4, x.block < W.heap.size := by obtain ⟨m, hm⟩ := k4; exact DataW.trod_lt m _ _ _ hm
  obtain ⟨a4, rfl, _, _, w4⟩ := open_str Try.underlying9 (hval 4 9 v4 rfl rfl) h4
  clear hA0
  refine (walk (.slice x0 l0 c0) a0 (.slice x1 l1 c1) a1 (.slice x2 l2 c2) a2 (.slice x3 l3 c3) a3 a4 W w0 w1 w2 w3 w4).mono fun e W' ⟨he, bel⟩ => ?_
  subst he
  exact ⟨_, rfl, _, _, _, [], _, [], hW', trodAll_mk1 (shut_bool Try.underlying4 _), (trodAll_cons_mk (Below.trod laidOut (by kernel_rfl) (of_decide_eq_true (by kernel_rfl)) k0 bel lt0) (trodAll_cons_mk (Below.trod laidOut (by kernel_rfl) (of_decide_eq_true (by kernel_rfl)) k1 bel lt1) (trodAll_cons_mk (Below.trod laidOut (by kernel_rfl) (of_decide_eq_true (by kernel_rfl)) k2 bel lt2) (trodAll_cons_mk (Below.trod laidOut (by kernel_rfl) (of_decide_eq_true (by kernel_rfl)) k3 bel lt3) (trodAll_cons_mk (Below.trod laidOut (by kernel_rfl) (of_decide_eq_true (by kernel_rfl)) k4 bel lt4) trodAll_mk0))))), rfl, bel.frame _, fun h => by cases h⟩

set_option maxRecDepth 100000 in
theorem lifted (os : Os) (started : os.Started) (H : Type) (enc : TypeId × Value → H) :
    ReturnsInHanded {} Try.checked os 7 .any (Rows.chunkApartSpec.pre6 enc Try.prog Try.f7 Rows.chunkApartRow.domain false) (Rows.chunkApartSpec.post enc Try.prog Try.f7 false true false false) := by
  refine returnsInHanded_of_change (C := Try.checked) own started (by kernel_rfl) Try.func7
    (ChangeSpec.witness6 (enc := enc) (C := Try.checked) false ⟨#[], #[.slice none 0 0, .slice none 0 0, .slice none 0 0, .slice none 0 0, .string ByteArray.empty], []⟩ 8 (by kernel_rfl) (by kernel_rfl) (by kernel_rfl) (by kernel_rfl)) ?_
  intro W base args ds gs before hval hW _ _
  exact contract H enc W base args ds gs before hval hW

theorem over : Rows.chunkApartRow.holds Try.pinned (OpenSpec.ofChange Rows.chunkApartSpec) :=
  OpenClaim.holds_of_wide 7 Try.f7 rfl rfl rfl rfl rfl rfl rfl ⟨rfl, rfl, rfl, rfl, rfl⟩ rfl rfl rfl rfl rfl (by kernel_rfl) Try.func7 (by kernel_rfl)
    (of_decide_eq_true (by kernel_rfl)) (by unfold Func.isWrapper; first | (rw [if_pos (by decide +kernel)]; kernel_rfl) | (rw [if_neg (by decide +kernel)]; exact ⟨rfl, rfl⟩))
    (fun os started H enc _ => lifted os started H enc)

/-- The statement. -/
theorem proved : Rows.ChunkApartSaid :=
  over
#print axioms proved
