/-
  RecordCut: for every list of records and every cut, of frames that are cut there the whole ones are told, and how many bytes they take. Condition: the table of package digest holds what its initialiser lays (the card ties it to the program's text).
-/
import Derived.Test.YtjnhgoedhggocaaDoorRecAw
import Derived.Test.YtjnhgoedhggocaaDoorHSame
import Derived.Test.YtjnhgoedhggocaaDoorTab
import Derived.Test.YtjnhgoedhggocaaDoorCutM
namespace Go.Proofs.YtjnhgoedhggocaaDoor.recordCut
open Go.ChangeShapes Go.WideShapes Go.ChangeAt Go.RowKit

theorem infoInt : (Tryd.prog.info? 3).map (fun i => (i.zero, i.size, i.bytes)) = some (some (.int .i64 0), 1, 8) := by kernel_rfl

/-- the ends of the first i frames -/
def endCells (xs : List (List UInt8)) (i : Nat) : List Value := (List.range i).map fun j => Value.int .i64 (endOf xs (j + 1) : Nat)
theorem endCells_succ (xs : List (List UInt8)) (i : Nat) : endCells xs (i + 1) = endCells xs i ++ [Value.int .i64 (endOf xs (i + 1) : Nat)] := by simp [endCells, List.range_succ]
theorem endCells_length (xs : List (List UInt8)) (i : Nat) : (endCells xs i).length = i := by simp [endCells]
theorem endOf_zero (xs : List (List UInt8)) : endOf xs 0 = 0 := by cases xs <;> rfl
theorem endOf_succ (xs : List (List UInt8)) (i : Nat) (x : List UInt8) (h : xs[i]? = some x) : endOf xs (i + 1) = endOf xs i + (8 + x.length) := by
  induction xs generalizing i with
  | nil => simp at h
  | cons y ys ih =>
    cases i with
    | zero =>
      simp at h
      subst h
      simp [endOf]
    | succ i =>
      have := ih i (by simpa using h)
      rw [endOf, this, endOf]
      omega

/-- Behind i rounds: the frames, their ends. -/
structure Laid (w wr : World) (xs : List (List UInt8)) (i : Nat) (b es : Value) : Prop where
  le : i ≤ xs.length
  small : ∀ j x, j < i → xs[j]? = some x → x.length ≤ 200
  sum : endOf xs i ≤ 208 * i
  ob : wr.ownsRow w.heap.size 5 1 b (endOf xs i) (Lib.byteCells (framesOf (xs.take i)))
  oe : wr.ownsRow w.heap.size 3 1 es i (endCells xs i)
  apart : ∀ g, b.ownBlock = some g → es.ownBlock ≠ some g
  below : Below w.heap.size w wr

section
set_option maxRecDepth 100000
set_option maxHeartbeats 2000000

theorem walk_at (v0 : Value) (ls : List (List UInt8)) (cut : Int) (w : World) (s0 : SlB w v0 ls) (hle : ∀ x ∈ ls, x.length ≤ maxLen) (ht : Tab w) :
    Calls Tryd.prog 4 #[v0, .int .i64 cut] w fun e w' => e = .returned (.bool true) ∧ Below w.heap.size w w' := by
  obtain ⟨i0, hi0, hi1, hi2, hi3⟩ := info_parts Tryd.info5
  obtain ⟨i9, hj0, hj1, hj2, hj3⟩ := info_parts infoInt
  obtain ⟨a0, c0, rfl⟩ := s0.form
  go_enter Tryd.func4, Tryd.ntmps4
  go_wp2_with fail
  go_loopw [5, 6, 7] (fun b es i wr => ∃ k : Nat, k ≤ 20 ∧ k ≤ ls.length ∧ i = .int .i64 k ∧ Hid (Laid w wr ls k b es)) (fun _ _ i _ => 20 - (intOf i).toNat)
  case atStart => exact ⟨0, Nat.zero_le _, Nat.zero_le _, rfl, hid ⟨Nat.zero_le _, fun j x h => by omega, by rw [endOf_zero]; exact Nat.zero_le _, by rw [endOf_zero]; exact World.ownsRow_nil _ _ _ _, World.ownsRow_nil _ _ _ _, fun g h => by simp [Value.ownBlock] at h, Below.refl _ _⟩⟩
  case round =>
    obtain ⟨k, hk, hkl, rfl, HL⟩ := hrel
    have hbel := HL.out.below
    have hz := hbel.size
    by_cases hlt : k < ls.length ∧ k < 20
    · obtain ⟨hlt1, hlt2⟩ := hlt
      obtain ⟨a, bx, cx, x, rfl, hc, hx, hs⟩ := (s0.old hbel).at (i := k) hlt1
      have hxl := hle x (List.mem_of_getElem? hx)
      unfold maxLen at hxl
      have i0' : (0 : Int) ≤ (k : Int) := Int.natCast_nonneg _
      have i1 : (k : Int) < (ls.length : Int) := by omega
      have i2 : (k : Int) < 20 := by omega
      by_cases h200 : 200 < x.length
      · have h2' : (200 : Int) < (x.length : Int) := by omega
        clear h200 s0 hle
        go_wp2_with fail
        refine (awake_any _ (ht.old hbel ht.pos)).mono ?_
        rintro e w1 ⟨rfl, hb1⟩
        go_wp2
        go_ret
        exact ⟨rfl, below_step hbel hb1 hz⟩
      · have h2' : ¬ (200 : Int) < (x.length : Int) := by omega
        have hk1 : endOf ls (k + 1) = endOf ls k + (8 + x.length) := endOf_succ ls k x hx
        have hsum := HL.out.sum
        have hfx := hid (show (Lib.byteCells (frameOf x)).length = 8 + x.length by rw [Lib.byteCells_length, frameOf_length])
        have g1 : endOf ls k + (Lib.byteCells (frameOf x)).length ≤ maxLen := by rw [hfx.out]; unfold maxLen; omega
        have g2 : (endOf ls k + (Lib.byteCells (frameOf x)).length) * 1 ≤ 140737488355328 := by rw [hfx.out]; omega
        have g3 : k + 1 ≤ maxLen := by unfold maxLen; omega
        have g4 : (k + 1) * 8 ≤ 140737488355328 := by omega
        have hnx : endOf ls (k + 1) ≤ 208 * (k + 1) := by omega
        have HK1 := hid hk1
        have HX := hid hx
        obtain ⟨ab, cb, hbf⟩ := owns_form HL.out.ob
        obtain ⟨ae, ce, hef⟩ := owns_form HL.out.oe
        subst hbf hef
        have hob := HL.out.ob
        have hoe := HL.out.oe
        have hap := HL.out.apart
        obtain ⟨E0, hE0⟩ : ∃ E0, endOf ls k = E0 := ⟨_, rfl⟩
        rw [hE0] at hob hap g1 g2 HK1 hsum ⊢
        obtain ⟨E1, hE1⟩ : ∃ E1, endOf ls (k + 1) = E1 := ⟨_, rfl⟩
        rw [hE1] at HK1 hnx
        have HE0 := hid hE0
        have HE1 := hid hE1
        clear hx hk1 hE0 hE1 s0 hle
        go_wp2_with fail
        refine (PFrame_any _ x (by omega) wr hs (ht.old hbel ht.pos)).mono ?_
        rintro e w1 ⟨v1, rfl, hv1, hb1⟩
        have hbw1 := below_step hbel hb1 hz
        have hz1 := hb1.size
        have sv1 := Sl.ofOwns hv1
        have hob1 : w1.ownsRow w.heap.size 5 1 (Value.slice ab E0 cb) E0 (Lib.byteCells (framesOf (ls.take k))) := (Keep.ofBelow (S := fun _ => False) hb1).owns hob fun _ _ h => h
        have hoe1 : w1.ownsRow w.heap.size 3 1 (Value.slice ae k ce) k (endCells ls k) := (Keep.ofBelow (S := fun _ => False) hb1).owns hoe fun _ _ h => h
        have hebz : ∀ j, (Value.slice ae k ce).ownBlock = some j → j < w1.heap.size := fun j hj => (hoe1.lt j hj).2
        clear hv1 hob hoe
        have hbase1 : w.heap.size ≤ w1.heap.size := by omega
        go_wp2_with (first
          | (refine wpList_append_any _ rfl (.tmp 32) (.tmp 37) _ _ rfl w.heap.size 5 i0 _ 1 1 Tryd.underlying22 hi0 hi1 hi2 hi3 rfl (by omega) (Value.slice ab E0 cb) _ _ rfl hob1 _ _ _ rfl (sv1.src Tryd.underlying22 (byte_one _)) g1 g2 hbase1 ?_
             intro v2 w2 hown2 hgrow2 hat2
             rw [hfx.out, ← HK1.out, ← Lib.byteCells_append, ← framesOf_snoc, ← take_snoc HX.out] at hown2
             obtain ⟨a2, c2, hv2⟩ := owns_form hown2
             have hb2 : Below w.heap.size w w2 := hbw1.grown hgrow2 hbase1 (fun j hj => (hob1.lt j hj).1)
             have hoe2 := ((Keep.refl (fun j => (Value.slice ab E0 cb).ownBlock = some j) w1).grown hgrow2 (fun j _ e => e)).owns hoe1 (fun j hj e => hap j e hj)
             have hz2 := hgrow2.size
             have hap2 : ∀ g, v2.ownBlock = some g → (Value.slice ae k ce).ownBlock ≠ some g := by
               intro g e e'
               rcases hat2 with h | h
               · exact hap g (h.symm.trans e) e'
               · rw [h] at e
                 have := hebz g e'
                 simp at e
                 omega
             subst hv2
             have hbase2 : w.heap.size ≤ (w2.alloc (.cells #[.int .i64 (E1 : Nat)] 3)).heap.size := by simp; omega
             clear hgrow2 hat2 g1 g2)
          | (refine wpList_append_any _ rfl (.tmp 39) (.tmp 42) _ _ rfl w.heap.size 3 i9 _ 1 8 Tryd.underlying34 hj0 hj1 hj2 hj3 rfl (by omega) (Value.slice ae k ce) _ _ rfl (hoe2.alloc _) _ 1 [.int .i64 (E1 : Nat)] rfl (Src.ofSlice _ Tryd.underlying34 ⟨w2.heap.size, 0, none⟩ 1 1 [.int .i64 (E1 : Nat)] (by rfl) (World.news_of_block (cs := #[.int .i64 (E1 : Nat)]) (t := 3) (fr := (0, 0)) (heap_alloc_new w2 _)) (by simp [Value.oneCell'])) g3 g4 hbase2 ?_
             intro v3 w3 hown3 hgrow3 hat3
             have R : Laid w w3 ls (k + 1) (Value.slice a2 E1 c2) v3 := by
               refine ⟨by omega, fun j y hj hy => ?_, by rw [HE1.out]; omega, ?_, ?_, ?_, ?_⟩
               · by_cases hjk : j = k
                 · subst hjk
                   rw [HX.out] at hy
                   obtain rfl : x = y := by simpa using hy
                   omega
                 · exact HL.out.small j y (by omega) hy
               · rw [HE1.out]
                 exact (((Keep.refl (fun j => (Value.slice ae k ce).ownBlock = some j) w2).alloc _).grown hgrow3 (fun j _ e => e)).owns hown2 (fun j hj e => hap2 j hj e)
               · rw [endCells_succ, HE1.out]
                 exact hown3
               · intro g e e'
                 have hg := (hown2.lt g e).2
                 rcases hat3 with h | h
                 · exact hap2 g e (h.symm.trans e')
                 · rw [h] at e'
                   simp at e'
                   omega
               · exact (hb2.alloc (by omega) _).grown hgrow3 hbase2 (fun j hj => (hoe2.lt j hj).1)
             clear hown3 hgrow3 hat3 hown2 hoe2 hap2 hb2))
        go_roundw
        case rel => exact ⟨k + 1, by omega, by omega, by go_num, hid R⟩
        case measure => simp [intOf]; omega
    · obtain ⟨ab, cb, hbf⟩ := owns_form HL.out.ob
      obtain ⟨ae, ce, hef⟩ := owns_form HL.out.oe
      subst hbf hef
      have sb := Sl.ofOwns HL.out.ob
      have se := Sl.ofOwns HL.out.oe
      have hBs := HL.out.sum
      have hsm := HL.out.small
      obtain ⟨xs, hxs⟩ : ∃ xs, ls.take k = xs := ⟨_, rfl⟩
      have hxl : xs.length = k := by rw [← hxs, List.length_take]; omega
      have hends : ∀ j, j ≤ k → endOf ls j = endOf xs j := fun j hj => by rw [← hxs, endOf_take _ _ _ hj]
      have hfl : (framesOf xs).length = endOf xs k := by rw [framesOf_length, hxl]
      have hx200 : ∀ x ∈ xs, x.length ≤ 200 := by
        intro x hx
        obtain ⟨j, hj⟩ := List.mem_iff_getElem?.1 hx
        have hjk : j < k := by rw [← hxl]; exact (List.getElem?_eq_some_iff.1 hj).1
        rw [← hxs, List.getElem?_take_of_lt hjk] at hj
        exact hsm j x hjk hj
      have hxg : ∀ j, j < k → xs[j]? = ls[j]? := fun j hj => by rw [← hxs, List.getElem?_take_of_lt hj]
      rw [hxs] at sb
      have hee := hends k (Nat.le_refl _)
      obtain ⟨B, hB⟩ : ∃ B, endOf ls k = B := ⟨_, rfl⟩
      rw [hB] at sb hBs hee ⊢
      obtain ⟨U, hU, hU0⟩ : ∃ U, IntKind.u64.wrap cut = U ∧ 0 ≤ U := ⟨_, rfl, by rw [IntKind.wrap_u64]; omega⟩
      obtain ⟨c, hc, hcl⟩ : ∃ c : Nat, U.tmod ((B : Int) + 1) = (c : Int) ∧ c ≤ B := by
        have h1 := Int.emod_nonneg U (b := (B : Int) + 1) (by omega)
        have h2 := Int.emod_lt_of_pos U (b := (B : Int) + 1) (by omega)
        refine ⟨(U % ((B : Int) + 1)).toNat, ?_, by omega⟩
        rw [Int.tmod_eq_emod_of_nonneg hU0]
        omega
      have hw1 : IntKind.i64.wrap ((B : Int) + 1) = (B : Int) + 1 := IntWalk.i64_in _ (by omega)
      have hw2 : IntKind.u64.wrap ((B : Int) + 1) = (B : Int) + 1 := by rw [IntKind.wrap_u64]; omega
      have hw3 : IntKind.i64.wrap (c : Int) = (c : Int) := IntWalk.i64_in _ (by omega)
      have hm0 : ((B : Int) + 1 == 0) = false := by simp; omega
      obtain ⟨ac, cc, rc, sc, _⟩ := run_slice_toK (P := Tryd.prog) 22 5 Tryd.underlying22 hi0 sb c (by rw [Lib.byteCells_length, hfl, ← hee]; omega) .i64
      rw [← byteCells_take] at sc
      obtain ⟨m, hm⟩ : ∃ m, wholeN xs c = m := ⟨_, rfl⟩
      have hmk : m ≤ k := by rw [← hm, ← hxl]; exact wholeN_le _ _
      have hiff : ∀ j, j ≤ k → (endOf xs j ≤ c ↔ j ≤ m) := fun j hj => by rw [← hm]; exact endOf_iff xs c j (by omega)
      have hsc : scanOf ((framesOf xs).take c) = (xs.take m, endOf xs m) := by rw [← hm]; exact scan_cut xs c (fun x hx => Nat.le_trans (hx200 x hx) (by omega))
      have hfc : ((framesOf xs).take c).length ≤ 5000 := by rw [List.length_take]; omega
      obtain ⟨D, hD⟩ : ∃ D, (framesOf xs).take c = D := ⟨_, rfl⟩
      rw [hD] at sc hsc hfc
      have hgl : (xs.take m).length = m := by rw [List.length_take, hxl]; omega
      have HEN := hid hends
      have HIF := hid hiff
      have HXG := hid hxg
      have HSC := hid hsc
      have HGL := hid hgl
      have HXL := hid hxl
      have s0r := s0.old hbel
      have hor : ¬ k < ls.length ∨ (k < ls.length ∧ ¬ k < 20) := by omega
      clear hends hiff hxg hsc hx200 hsm hfl hxs hB hm hgl hxl hD hU0 hlt HL s0 hle hee
      rcases hor with h1 | ⟨h1, h1'⟩
      · have h2 : ¬ (k : Int) < (ls.length : Int) := by omega
        go_wp2_with fail
        refine (PScan_any _ D (by omega) wr sc (ht.old hbel ht.pos)).mono ?_
        rw [HSC.out]
        rintro e w1 ⟨l, rfl, hl1, hb1⟩
        obtain ⟨al, cl, hlf⟩ := hl1.form
        subst hlf
        rw [HGL.out] at hl1 ⊢
        have se1 := Sl.old se hb1
        have hbw1 := below_step hbel hb1 hz
        have hz1 := hbw1.size
        have s01 := s0r.old hb1
        obtain ⟨EM, hEM⟩ : ∃ EM, endOf xs m = EM := ⟨_, rfl⟩
        have HEM := hid hEM
        rw [show (xs.take m, endOf xs m).2 = endOf xs m from rfl, hEM]
        clear hEM sc se sb rc s0r
        go_wp2_with fail
        go_loopw [11, 12, 13] (fun wa en i wx => ∃ j : Nat, j ≤ k ∧ i = .int .i64 j ∧ wa = .int .i64 (min j m : Nat) ∧ en = .int .i64 (endOf xs (min j m) : Nat) ∧ ∃ q, wx = w1.drewN q) (fun _ _ i _ => k - (intOf i).toNat)
        case atStart => exact ⟨0, Nat.zero_le _, rfl, by rw [Nat.zero_min]; rfl, by rw [Nat.zero_min, endOf_zero]; rfl, 0, rfl⟩
        case round =>
          obtain ⟨j, hj, rfl, rfl, rfl, q, rfl⟩ := hrel
          by_cases hjk : j < k
          · obtain ⟨a, y, rfl, hcell, hy⟩ := Sl.elemAt' (f := fun j => Value.int .i64 (endOf ls (j + 1) : Nat)) (l := List.range k) se1 (i := j) (by rw [List.length_range]; exact hjk)
            obtain rfl : j = y := by simpa [hjk] using hy
            have hv := HEN.out (j + 1) (by omega)
            have hiff := HIF.out (j + 1) (by omega)
            obtain ⟨V, hV⟩ : ∃ V, endOf ls (j + 1) = V := ⟨_, rfl⟩
            rw [hV] at hcell hv
            have j0 : (0 : Int) ≤ (j : Int) := Int.natCast_nonneg _
            have j1 : (j : Int) < (k : Int) := by omega
            have jw : IntKind.i64.wrap ((j : Int) + 1) = (j : Int) + 1 := IntWalk.i64_in _ (by omega)
            obtain ⟨W0, hW0⟩ : ∃ W0, min j m = W0 := ⟨_, rfl⟩
            obtain ⟨X0, hX0⟩ : ∃ X0, endOf xs W0 = X0 := ⟨_, rfl⟩
            rw [hW0, hX0]
            by_cases hjm : j + 1 ≤ m
            · have hvc : (V : Int) ≤ (c : Int) := by have := hiff.2 hjm; omega
              have R1 := hid (show min (j + 1) m = j + 1 by omega)
              have HV := hid hv
              clear hv hiff hV hW0 hX0 hy hjm
              go_wp2_with fail
              go_quiet (fail)
              go_wp2
              go_roundw
              case rel => exact ⟨j + 1, by omega, by go_num, by rw [R1.out]; go_num, by rw [R1.out, ← HV.out], _, rfl⟩
              case measure => simp [intOf]; omega
            · have hvc : ¬ (V : Int) ≤ (c : Int) := by
                intro h
                exact hjm (hiff.1 (by omega))
              have R1 := hid (show min (j + 1) m = W0 by omega)
              have HX0 := hid hX0
              clear hv hiff hV hW0 hX0 hy hjm
              go_wp2_with fail
              go_roundw
              case rel => exact ⟨j + 1, by omega, by go_num, by rw [R1.out], by rw [R1.out, HX0.out], q, rfl⟩
              case measure => simp [intOf]; omega
          · obtain rfl : j = k := by omega
            have hd : Below w1.heap.size w1 (w1.drewN q) := ⟨rfl, rfl, rfl, Nat.le_refl _, fun _ _ => rfl⟩
            have hbw2 := below_step hbw1 hd hbw1.size
            rw [show min j m = m by omega, HEM.out]
            have hl2 := hl1.old hd
            have s02 := s01.old hd
            have hnm : ((m : Int) != (m : Int)) = false := by simp
            have hne : ((EM : Int) != (EM : Int)) = false := by simp
            have hjj : ¬ (j : Int) < (j : Int) := by omega
            clear hl1 s01 se1 hjk hj
            go_wp2_with fail
            refine (awake_any _ (ht.old hbw2 ht.pos)).mono ?_
            rintro e w3 ⟨rfl, hb3⟩
            have hbw3 := below_step hbw2 hb3 hbw2.size
            have hl3 := (hl2.old hb3).slB
            have s03 := s02.old hb3
            clear hl2 s02
            go_wp2_with fail
            go_loopw [14] (fun i wx => ∃ n : Nat, n ≤ m ∧ i = .int .i64 n ∧ ∃ q, wx = w3.drewN q) (fun i _ => m - (intOf i).toNat)
            case atStart => exact ⟨0, Nat.zero_le _, rfl, 0, rfl⟩
            case round =>
              obtain ⟨n, hn, rfl, q3, rfl⟩ := hrel
              by_cases hnm' : n < m
              · obtain ⟨a1, b1, d1, t1, rfl, hc1, ht1, hs1⟩ := hl3.at (i := n) (by rw [HGL.out]; exact hnm')
                obtain ⟨a2, b2, d2, t2, rfl, hc2, ht2, hs2⟩ := s03.at (i := n) (by omega)
                rw [List.getElem?_take_of_lt hnm', HXG.out n (by omega), ht2] at ht1
                obtain rfl : t2 = t1 := by simpa using ht1
                have n0 : (0 : Int) ≤ (n : Int) := Int.natCast_nonneg _
                have n1 : (n : Int) < (m : Int) := by omega
                have n2 : (n : Int) < (ls.length : Int) := by omega
                have n2' : n < ls.length := by omega
                have HBB := hid (show ∀ wy : World, wy.heap = w3.heap → Calls Tryd.prog 13 #[.slice b1 t2.length d1, .slice b2 t2.length d2] wy fun e w' => e = .returned (.bool true) ∧ wy = w' from fun wy e => by
                  refine (HBytes_any _ _ _ _ _ (hs1.ofHeap e) (hs2.ofHeap e)).mono ?_
                  rw [show (t2 == t2) = true by simp]
                  exact fun e w' h => h)
                clear ht1 ht2 hs1 hs2
                go_wp2_with fail
                go_region_held3 (fun wy => wy.cell? (a1.add n) = some (.slice b1 t2.length d1) ∧ wy.cell? (a2.add n) = some (.slice b2 t2.length d2) ∧ wy.heap = w3.heap) (go_keep) ((go_at_call 13; refine (HBB.out _ (by simp_all)).mono ?_; rintro e w7 ⟨rfl, rfl⟩))
                go_wp2
                go_roundw
                case rel => exact ⟨n + 1, by omega, by go_num, q3 + 1, rfl⟩
                case measure => simp [intOf]; omega
              · obtain rfl : n = m := by omega
                have hd4 : Below w3.heap.size w3 (w3.drewN q3) := ⟨rfl, rfl, rfl, Nat.le_refl _, fun _ _ => rfl⟩
                have hbw4 := below_step hbw3 hd4 hbw3.size
                go_wp2
                go_ret
                exact ⟨rfl, hbw4⟩
      · have h2 : (k : Int) < (ls.length : Int) := by omega
        have h3 : ¬ (k : Int) < 20 := by omega
        go_wp2_with fail
        refine (PScan_any _ D (by omega) wr sc (ht.old hbel ht.pos)).mono ?_
        rw [HSC.out]
        rintro e w1 ⟨l, rfl, hl1, hb1⟩
        obtain ⟨al, cl, hlf⟩ := hl1.form
        subst hlf
        rw [HGL.out] at hl1 ⊢
        have se1 := Sl.old se hb1
        have hbw1 := below_step hbel hb1 hz
        have hz1 := hbw1.size
        have s01 := s0r.old hb1
        obtain ⟨EM, hEM⟩ : ∃ EM, endOf xs m = EM := ⟨_, rfl⟩
        have HEM := hid hEM
        rw [show (xs.take m, endOf xs m).2 = endOf xs m from rfl, hEM]
        clear hEM sc se sb rc s0r
        go_wp2_with fail
        go_loopw [11, 12, 13] (fun wa en i wx => ∃ j : Nat, j ≤ k ∧ i = .int .i64 j ∧ wa = .int .i64 (min j m : Nat) ∧ en = .int .i64 (endOf xs (min j m) : Nat) ∧ ∃ q, wx = w1.drewN q) (fun _ _ i _ => k - (intOf i).toNat)
        case atStart => exact ⟨0, Nat.zero_le _, rfl, by rw [Nat.zero_min]; rfl, by rw [Nat.zero_min, endOf_zero]; rfl, 0, rfl⟩
        case round =>
          obtain ⟨j, hj, rfl, rfl, rfl, q, rfl⟩ := hrel
          by_cases hjk : j < k
          · obtain ⟨a, y, rfl, hcell, hy⟩ := Sl.elemAt' (f := fun j => Value.int .i64 (endOf ls (j + 1) : Nat)) (l := List.range k) se1 (i := j) (by rw [List.length_range]; exact hjk)
            obtain rfl : j = y := by simpa [hjk] using hy
            have hv := HEN.out (j + 1) (by omega)
            have hiff := HIF.out (j + 1) (by omega)
            obtain ⟨V, hV⟩ : ∃ V, endOf ls (j + 1) = V := ⟨_, rfl⟩
            rw [hV] at hcell hv
            have j0 : (0 : Int) ≤ (j : Int) := Int.natCast_nonneg _
            have j1 : (j : Int) < (k : Int) := by omega
            have jw : IntKind.i64.wrap ((j : Int) + 1) = (j : Int) + 1 := IntWalk.i64_in _ (by omega)
            obtain ⟨W0, hW0⟩ : ∃ W0, min j m = W0 := ⟨_, rfl⟩
            obtain ⟨X0, hX0⟩ : ∃ X0, endOf xs W0 = X0 := ⟨_, rfl⟩
            rw [hW0, hX0]
            by_cases hjm : j + 1 ≤ m
            · have hvc : (V : Int) ≤ (c : Int) := by have := hiff.2 hjm; omega
              have R1 := hid (show min (j + 1) m = j + 1 by omega)
              have HV := hid hv
              clear hv hiff hV hW0 hX0 hy hjm
              go_wp2_with fail
              go_quiet (fail)
              go_wp2
              go_roundw
              case rel => exact ⟨j + 1, by omega, by go_num, by rw [R1.out]; go_num, by rw [R1.out, ← HV.out], _, rfl⟩
              case measure => simp [intOf]; omega
            · have hvc : ¬ (V : Int) ≤ (c : Int) := by
                intro h
                exact hjm (hiff.1 (by omega))
              have R1 := hid (show min (j + 1) m = W0 by omega)
              have HX0 := hid hX0
              clear hv hiff hV hW0 hX0 hy hjm
              go_wp2_with fail
              go_roundw
              case rel => exact ⟨j + 1, by omega, by go_num, by rw [R1.out], by rw [R1.out, HX0.out], q, rfl⟩
              case measure => simp [intOf]; omega
          · obtain rfl : j = k := by omega
            have hd : Below w1.heap.size w1 (w1.drewN q) := ⟨rfl, rfl, rfl, Nat.le_refl _, fun _ _ => rfl⟩
            have hbw2 := below_step hbw1 hd hbw1.size
            rw [show min j m = m by omega, HEM.out]
            have hl2 := hl1.old hd
            have s02 := s01.old hd
            have hnm : ((m : Int) != (m : Int)) = false := by simp
            have hne : ((EM : Int) != (EM : Int)) = false := by simp
            have hjj : ¬ (j : Int) < (j : Int) := by omega
            clear hl1 s01 se1 hjk hj
            go_wp2_with fail
            refine (awake_any _ (ht.old hbw2 ht.pos)).mono ?_
            rintro e w3 ⟨rfl, hb3⟩
            have hbw3 := below_step hbw2 hb3 hbw2.size
            have hl3 := (hl2.old hb3).slB
            have s03 := s02.old hb3
            clear hl2 s02
            go_wp2_with fail
            go_loopw [14] (fun i wx => ∃ n : Nat, n ≤ m ∧ i = .int .i64 n ∧ ∃ q, wx = w3.drewN q) (fun i _ => m - (intOf i).toNat)
            case atStart => exact ⟨0, Nat.zero_le _, rfl, 0, rfl⟩
            case round =>
              obtain ⟨n, hn, rfl, q3, rfl⟩ := hrel
              by_cases hnm' : n < m
              · obtain ⟨a1, b1, d1, t1, rfl, hc1, ht1, hs1⟩ := hl3.at (i := n) (by rw [HGL.out]; exact hnm')
                obtain ⟨a2, b2, d2, t2, rfl, hc2, ht2, hs2⟩ := s03.at (i := n) (by omega)
                rw [List.getElem?_take_of_lt hnm', HXG.out n (by omega), ht2] at ht1
                obtain rfl : t2 = t1 := by simpa using ht1
                have n0 : (0 : Int) ≤ (n : Int) := Int.natCast_nonneg _
                have n1 : (n : Int) < (m : Int) := by omega
                have n2 : (n : Int) < (ls.length : Int) := by omega
                have n2' : n < ls.length := by omega
                have HBB := hid (show ∀ wy : World, wy.heap = w3.heap → Calls Tryd.prog 13 #[.slice b1 t2.length d1, .slice b2 t2.length d2] wy fun e w' => e = .returned (.bool true) ∧ wy = w' from fun wy e => by
                  refine (HBytes_any _ _ _ _ _ (hs1.ofHeap e) (hs2.ofHeap e)).mono ?_
                  rw [show (t2 == t2) = true by simp]
                  exact fun e w' h => h)
                clear ht1 ht2 hs1 hs2
                go_wp2_with fail
                go_region_held3 (fun wy => wy.cell? (a1.add n) = some (.slice b1 t2.length d1) ∧ wy.cell? (a2.add n) = some (.slice b2 t2.length d2) ∧ wy.heap = w3.heap) (go_keep) ((go_at_call 13; refine (HBB.out _ (by simp_all)).mono ?_; rintro e w7 ⟨rfl, rfl⟩))
                go_wp2
                go_roundw
                case rel => exact ⟨n + 1, by omega, by go_num, q3 + 1, rfl⟩
                case measure => simp [intOf]; omega
              · obtain rfl : n = m := by omega
                have hd4 : Below w3.heap.size w3 (w3.drewN q3) := ⟨rfl, rfl, rfl, Nat.le_refl _, fun _ _ => rfl⟩
                have hbw4 := below_step hbw3 hd4 hbw3.size
                go_wp2
                go_ret
                exact ⟨rfl, hbw4⟩
end

theorem walk (v0 : Value) (ls : List (List UInt8)) (cut : Int) (w : World) (h0 : FactSlB w v0 ls) (_h1 : (Lit.int .i64 cut).wf = true) (ht : Tab w) :
    Calls Tryd.prog 4 #[v0, .int .i64 cut] w fun e w' => e = .returned (.bool true) ∧ Below w.heap.size w w' :=
  walk_at v0 ls cut w h0.1 h0.2.2 ht

theorem own : ownKnob Tryd.prog.godebug = none := by kernel_rfl
theorem laidOut : laidOutB Tryd.prog = true := by kernel_rfl
theorem laid_met (os : Os) : laidMet Tryd.prog Rows.recordCutRow.laid ((laidWorld os).forCall (fun _ _ => 0) ⟨#[], #[.slice none 0 0, .int .i64 0], []⟩).memory :=
  laidMet_of_run' 8 (by kernel_rfl) (by kernel_rfl)
theorem reads (os : Os) {H : Type} (enc : TypeId × Value → H) : ∃ places, DataW.whole enc Tryd.prog ((laidWorld os).forCall (fun _ _ => 0) ⟨#[], #[.slice none 0 0, .int .i64 0], []⟩).memory Tryd.f4.params.toList Rows.recordCutSpec.vars false (#[.slice none 0 0, .int .i64 0] : Array Value).toList 8 = some ([.nil, .lit (.int .i64 0)], [], places) :=
  ⟨[], by kernel_rfl⟩

theorem contract (H : Type) (enc : TypeId × Value → H) (W : World) (base : Nat) (args : Array Value) (ds gs : List (DataW H)) (before : List MemPlace)
    (hval : ∀ (j : Nat) t v, Tryd.f4.params[j]? = some t → args[j]? = some v → Value.okWide Tryd.prog W .any base t v)
    (hW : DataW.Whole enc Tryd.prog Tryd.f4.params.toList Rows.recordCutSpec.vars false W args.toList ds gs before) (hL : laidMetH Tryd.prog Rows.recordCutRow.laid W) :
    Calls Tryd.prog 4 args W fun e W' => ∃ v, e = .returned v ∧ Rows.recordCutSpec.post enc Tryd.prog Tryd.f4 false true false false W args v W' := by
  have hW' := hW
  obtain ⟨p, q, hA0, hV, rfl, hfz, hnd⟩ := hW
  have hA : DataW.TrodAll enc Tryd.prog W 0 (fun _ => true) true Tryd.f4.params.toList args.toList ds p := hA0
  rw [Tryd.params4] at hA hval
  obtain ⟨v0, vs0, d0, ds0, p0, q0, hargs, rfl, rfl, h0, r0⟩ := trodAll_cons hA
  obtain ⟨v1, vs1, d1, ds1, p1, q1, rfl, rfl, rfl, h1, r1⟩ := trodAll_cons r0
  obtain ⟨rfl, rfl, rfl⟩ := trodAll_nil r1
  obtain rfl : args = #[v0, v1] := by cases args; simp_all
  obtain ⟨rfl, rfl⟩ := trodVars_none hV
  have k0 := h0
  have lt0 : ∀ x ∈ p0, x.block < W.heap.size := by obtain ⟨m, hm⟩ := k0; exact DataW.trod_lt m _ _ _ hm
  obtain ⟨x0, l0, c0, rfl⟩ := okWide_slice Tryd.underlying25 (hval 0 25 v0 rfl rfl)
  obtain ⟨a0, w0⟩ : ∃ a, FactSlB W (.slice x0 l0 c0) a := by
    obtain ⟨fuel, hf⟩ := h0
    obtain ⟨v', a, hcs, hs⟩ := open_slB Tryd.underlying25 Tryd.underlying22 Tryd.underlying5 (by kernel_rfl) (by kernel_rfl) hf
    obtain rfl : v' = .slice x0 l0 c0 := by simpa [Value.cells] using hcs.symm
    exact ⟨a, hs⟩
  have k1 := h1
  have lt1 : ∀ x ∈ p1, x.block < W.heap.size := by obtain ⟨m, hm⟩ := k1; exact DataW.trod_lt m _ _ _ hm
  obtain ⟨a1, rfl, _, _, w1⟩ := open_int Tryd.underlying3 (hval 1 3 v1 rfl rfl) h1
  clear hA0
  refine (walk (.slice x0 l0 c0) a0 a1 W w0 w1 (Tab_of hL)).mono fun e W' ⟨he, bel⟩ => ?_
  subst he
  exact ⟨_, rfl, _, _, _, [], _, [], hW', trodAll_mk1 (shut_bool Tryd.underlying4 _), (trodAll_cons_mk (Below.trod laidOut (by kernel_rfl) (of_decide_eq_true (by kernel_rfl)) k0 bel lt0) (trodAll_cons_mk (Below.trod laidOut (by kernel_rfl) (of_decide_eq_true (by kernel_rfl)) k1 bel lt1) trodAll_mk0)), rfl, bel.frame _, fun h => by cases h⟩

set_option maxRecDepth 100000 in
theorem lifted (os : Os) (started : os.Started) (H : Type) (enc : TypeId × Value → H) (F : Stop.Interp) :
    ReturnsInHanded {} Tryd.checked os 4 .any ((OpenSpec.ofChange Rows.recordCutSpec).preRow enc Tryd.prog Tryd.f4 Rows.recordCutRow.domain false Rows.recordCutRow.laid) (((OpenSpec.ofChange Rows.recordCutSpec).at F).post enc Tryd.prog Tryd.f4 false true false false) := by
  obtain ⟨places, hx⟩ := reads os enc
  refine returnsInHanded_of_row (C := Tryd.checked) (s := OpenSpec.ofChange Rows.recordCutSpec) own started (by kernel_rfl) Tryd.func4
    (witness_row_at (enc := enc) (C := Tryd.checked) false (laidWorld os) #[.slice none 0 0, .int .i64 0] rfl (by kernel_rfl) (by kernel_rfl) (by kernel_rfl)
      (OpenSpec.preRow_of_cond 8 hx (by kernel_rfl) (fun k hk => by cases hk) (by kernel_rfl) (laid_met os))) ?_
  intro W base args ds gs before hval hW _ _ _ hL _ _
  exact contract H enc W base args ds gs before hval hW hL

theorem said : Rows.RecordCutSaid :=
  OpenClaim.holds_of_cond 4 Tryd.f4 rfl rfl rfl rfl rfl rfl rfl ⟨rfl, rfl, rfl, rfl, rfl⟩ rfl rfl rfl rfl rfl (by kernel_rfl) Tryd.func4 (by kernel_rfl)
    (of_decide_eq_true (by kernel_rfl)) (by unfold Func.isWrapper; first | (rw [if_pos (by decide +kernel)]; kernel_rfl) | (rw [if_neg (by decide +kernel)]; exact ⟨rfl, rfl⟩))
    (fun os started H enc _ F => by rw [OpenClaim.pre_eq_preRow]; exact lifted os started H enc F)

theorem plain (f : FuncId) (fn : Func) (hf : Tryd.pinned.checked.prog.funcNamed "rick/ricklaw04.RecordCut" = some f) (hfn : Tryd.pinned.checked.prog.funcs[f]? = some fn) :
    false = Tryd.pinned.checked.prog.looks [] ∧ ∀ (j : Nat) t, fn.params[j]? = some t → Tryd.pinned.checked.prog.wantsStandIn t = false := by
  obtain rfl : f = 4 := Option.some.inj ((show Tryd.prog.funcNamed "rick/ricklaw04.RecordCut" = some 4 by kernel_rfl).symm.trans hf) |>.symm
  obtain rfl : fn = Tryd.f4 := (Option.some.inj (Tryd.func4.symm.trans hfn)).symm
  refine ⟨by kernel_rfl, fun j t ht => ?_⟩
  rw [Tryd.params4] at ht
  have hm := Array.mem_of_getElem? ht
  simp only [List.mem_toArray, List.mem_cons, List.not_mem_nil, or_false] at hm
  rcases hm with rfl | rfl
  · exact (show Tryd.prog.wantsStandIn 25 = false by kernel_rfl)
  · exact (show Tryd.prog.wantsStandIn 3 = false by kernel_rfl)

/-- The statement: its tied card. -/
theorem proved : Rows.RecordCutCardSaid :=
  Claim7.holds_tied_plain_at .later [] _ _ _ _ said (fun _ h => by cases h) (by kernel_rfl) (fun _ h => by cases h) recordCut_row_tie rfl ⟨rfl, rfl⟩ (by kernel_rfl) rfl plain (by kernel_rfl)
#print axioms proved
end Go.Proofs.YtjnhgoedhggocaaDoor.recordCut
