/-
  Blame (the document's own).
-/
import Derived.Test.YtikemkgedmbijaaBlN
import Derived.Test.YtikemkgedmbijaaRdfS
import Derived.Deep.LoopGhost
import Derived.Deep.RegionHeld3
namespace Go.Proofs.Ytikemkgedmbijaa
open Go.RowKit

theorem made_zero (w : World) (n : Nat) : Sl (w.alloc (.cells (List.replicate n (Value.int .i64 0)).toArray 3)) (.slice (some ⟨w.heap.size, 0, none⟩) n n) (intCells (nI (List.replicate n 0))) := by
  have hl : (intCells (nI (List.replicate n 0))).length = n := by rw [intCells_length, nI_length, List.length_replicate]
  have e : intCells (nI (List.replicate n 0)) = List.replicate n (Value.int .i64 0) := by simp [intCells, nI]
  refine ⟨some ⟨w.heap.size, 0, none⟩, n, by rw [hl], (fun h => by cases h), Nat.le_of_eq hl, fun a ha i x hx => ?_⟩
  cases ha
  rw [e] at hx
  rw [Addr.add_lit, Nat.zero_add]
  exact blk_cell (heap_alloc_new w _) (by rw [List.getElem?_toArray]; exact hx)
section
set_option maxRecDepth 100000
set_option maxHeartbeats 4000000
theorem RBlame_any (v : Value) (ls : List (List (List UInt8))) (w : World) (hv : SlLL w v ls) (hn : ls.length ≤ 1000) (hl : ∀ l ∈ ls, l.length ≤ 400) :
    Calls Try.prog 11 #[v] w fun e w' => ∃ u, e = .returned u ∧ Sl w' u (intCells (nI (blameS ls))) ∧ Below w.heap.size w w' := by
  obtain ⟨ao, cap, rfl⟩ := hv.form
  have HV := hid hv
  have HL := hid hl
  clear hv hl
  cases hls : ls.length with
  | zero =>
    have HN := hid (show blameS ls = [] by rw [List.eq_nil_of_length_eq_zero hls]; rfl)
    rw [hls] at HV
    go_enter Try.func11, Try.ntmps11
    go_wp2_with fail
    go_ret
    refine ⟨_, rfl, ?_, Below.refl _ _⟩
    rw [HN.out]
    exact Sl.nil _
  | succ n =>
    have h0 : 0 < ls.length := by omega
    obtain ⟨b, o, f, fo, fc, rfl, c0, s0, e0⟩ := HV.out.at' (i := 0) h0
    rw [Nat.add_zero] at c0
    have hfl := HL.out f (List.mem_of_getElem? e0)
    have hne : ((ls.length : Int) == 0) = false := by rw [beq_eq_false_iff_ne]; omega
    have hpos : (0 : Int) < (ls.length : Int) := by omega
    have HB0 := hid (show blameS ls = blameFrom 1 f (List.replicate f.length 0) (ls.drop 1) by
      cases ls with
      | nil => cases h0
      | cons x l => cases e0; rfl)
    obtain ⟨i0, hi0, hi1, hi2, hi3⟩ := info_parts Try.infoInt
    have hmk := fun wx : World => run_make1 (P := Try.prog) wx 28 3 i0 _ Try.underlying28 hi0 hi1 hi2 rfl f.length (by rw [hi3]; omega) (by omega)
    rw [← hls]
    have E0 := hid e0
    clear e0 s0 hi0 hi1 hi2 hi3 hls
    go_enter Try.func11, Try.ntmps11
    go_wp2_with fail
    go_loopg [3, 4] (ls.length - 1) (fun g out v wr => ∃ (k : Nat) (prev : List (List UInt8)) (O : List Nat), 0 < k ∧ k ≤ ls.length ∧ g = ls.length - k ∧ v = .int .i64 k ∧ Hid (ls[k - 1]? = some prev) ∧ Hid (O.length = prev.length) ∧ Hid (blameS ls = blameFrom k prev O (ls.drop k)) ∧ Hid (Sl wr out (intCells (nI O))) ∧ Below w.heap.size w wr)
    case atStart =>
      refine ⟨1, f, List.replicate f.length 0, by omega, h0, rfl, rfl, hid E0.out, hid (by simp), HB0, hid ?_, (Below.refl _ w).alloc (Nat.le_refl _) _⟩
      exact made_zero w f.length
    case round =>
      obtain ⟨k, prev, O, hk0, hk, rfl, rfl, HP, HO, HB, HS, hbel⟩ := hrel
      have hz := hbel.size
      have k0 : (0 : Int) ≤ (k : Int) := Int.natCast_nonneg _
      obtain ⟨oo, oc, rfl⟩ := HS.out.form
      have hOl : (intCells (nI O)).length = O.length := by rw [intCells_length, nI_length]
      rw [hOl]
      by_cases hlt : k < ls.length
      · have k1 : (k : Int) < (ls.length : Int) := by omega
        have kw : IntKind.i64.wrap ((k : Int) + 1) = (k : Int) + 1 := IntWalk.i64_in _ (by omega)
        obtain ⟨j, hj⟩ : ∃ j, k - 1 = j := ⟨_, rfl⟩
        have jw : IntKind.i64.wrap ((k : Int) - 1) = (j : Int) := (IntWalk.i64_in _ (by omega)).trans (by omega)
        have j0 : (0 : Int) ≤ (j : Int) := Int.natCast_nonneg _
        have j1 : (j : Int) < (ls.length : Int) := by omega
        obtain ⟨b1, o1, cur, co, cc, q1, c1, s1, e1⟩ := (HV.out.old hbel).at' (i := k) hlt
        cases q1
        obtain ⟨b2, o2, prev', po, pc, q2, c2, s2, e2⟩ := (HV.out.old hbel).at' (i := j) (by omega)
        cases q2
        have hpe := HP.out
        rw [hj, e2] at hpe
        cases hpe
        have hcl := HL.out cur (List.mem_of_getElem? e1)
        have hpl := HL.out prev (List.mem_of_getElem? e2)
        have HCALL := hid (RScript_any (.slice po prev.length pc) (.slice co cur.length cc) prev cur wr.drew (Sl.old s2 ⟨rfl, rfl, rfl, Nat.le_refl _, fun _ _ => rfl⟩) (Sl.old s1 ⟨rfl, rfl, rfl, Nat.le_refl _, fun _ _ => rfl⟩) (by omega) (by omega))
        have HB2 := hid (HB.out.trans (blame_at e1 prev O))
        have HS2 := hid (script_side2 hpl hcl)
        have hfew := script_few hpl hcl
        have HLN := hid (step_length hpl hcl k HO.out)
        have HE1 := hid e1
        obtain ⟨s, hs⟩ : ∃ s, scriptS prev cur = s := ⟨_, rfl⟩
        rw [hs] at HCALL HB2 HS2 hfew HLN
        have k2 : wr.drew.cell? ⟨b, o + k, none⟩ = _ := c1
        have k3 : wr.drew.cell? ⟨b, o + j, none⟩ = _ := c2
        clear e1 e2 s1 s2 hs hj
        go_wp2_with fail
        go_region_held3 (fun wy => wy.cell? ⟨b, o + k, none⟩ = some (.slice co cur.length cc) ∧ wy.cell? ⟨b, o + j, none⟩ = some (.slice po prev.length pc)) (first | exact ⟨k2, k3⟩ | trivial) ((go_at_call 20; refine HCALL.out.mono ?_; rintro e w2 ⟨l, rfl, hE, hb2⟩; have k2 : w2.cell? ⟨b, o + k, none⟩ = _ := (World.cell?_of_block (w := wr.drew) (hb2.block _ (World.block_lt_of_cell? wr.drew _ k2))).trans k2; have k3 : w2.cell? ⟨b, o + j, none⟩ = _ := (World.cell?_of_block (w := wr.drew) (hb2.block _ (World.block_lt_of_cell? wr.drew _ k3))).trans k3))
        have hbr : Below w.heap.size w w2 := below_step hbel (show Below wr.heap.size wr w2 from (show Below wr.heap.size wr wr.drew from ⟨rfl, rfl, rfl, Nat.le_refl _, fun _ _ => rfl⟩).trans hb2) hz
        have HS3 := hid (Sl.old HS.out (show Below wr.heap.size wr w2 from (show Below wr.heap.size wr wr.drew from ⟨rfl, rfl, rfl, Nat.le_refl _, fun _ _ => rfl⟩).trans hb2))
        obtain ⟨lo, lc, rfl⟩ := hE.form
        have HE := hid hE.slE
        have hzr := hbr.size
        clear hE hb2 HS HCALL k2 k3 c1 c2 hbel hz
        go_wp2_with fail
        go_loopg [6, 7, 8] s.length (fun g nx at' i wx => ∃ (m A : Nat) (X : List Nat), m ≤ s.length ∧ g = s.length - m ∧ i = .int .i64 m ∧ at' = .int .i64 A ∧ Hid (X ++ blameStep k (s.drop m) (O.drop A) = blameStep k s O) ∧ Hid ((sideS 2 (s.drop m)).length + A = O.length) ∧ Hid (wx.ownsRow w2.heap.size 3 1 nx (nI X).length (intCells (nI X))) ∧ Hid (X.length ≤ m) ∧ Below w2.heap.size w2 wx)
        case atStart => exact ⟨0, 0, [], Nat.zero_le _, rfl, rfl, rfl, hid (by rw [List.drop_zero, List.drop_zero]; rfl), hid (by rw [List.drop_zero, HS2.out, HO.out, Nat.add_zero]), hid (World.ownsRow_nil _ _ _ _), hid (Nat.le_refl _), Below.refl _ _⟩
        case round =>
          obtain ⟨m, A, X, hm, rfl, rfl, rfl, HX, HA, HN, HXL, hbx⟩ := hrel
          have hzx := hbx.size
          obtain ⟨no, nc, rfl⟩ := owns_form HN.out
          have m0 : (0 : Int) ≤ (m : Int) := Int.natCast_nonneg _
          have A0 : (0 : Int) ≤ (A : Int) := Int.natCast_nonneg _
          by_cases hmt : m < s.length
          · have m1 : (m : Int) < (s.length : Int) := by omega
            have mw : IntKind.i64.wrap ((m : Int) + 1) = (m : Int) + 1 := IntWalk.i64_in _ (by omega)
            obtain ⟨be, oe, c, x, rfl, hc, hd, he⟩ := (HE.out.old hbx).at' (i := m) hmt
            have HST := hid (step_at he k (O.drop A))
            have HSD := hid (side2_at he)
            have hAl : (if c = 1 ∨ c = 2 then 1 else 0) + (sideS 2 (s.drop (m + 1))).length + A = O.length := by rw [← HSD.out]; exact HA.out
            have hOb : O.length ≤ 400 := by rw [HO.out]; exact hpl
            clear he hd HSD
            by_cases h1 : c = 1
            · subst h1
              rw [if_pos (.inl rfl)] at hAl
              have hA1 : A < O.length := by omega
              obtain ⟨ob, z, q3, hcz, hzz⟩ := (Sl.old HS3.out hbx).intAt' (i := A) (by rw [nI_length]; exact hA1)
              obtain ⟨p, rfl, hOp⟩ := nI_at hzz
              have hdr : O.drop A = p :: O.drop (A + 1) := by
                obtain ⟨q, e⟩ := List.getElem?_eq_some_iff.1 hOp
                rw [List.drop_eq_getElem_cons q, e]
              have HX2 := hid (show (X ++ [p]) ++ blameStep k (s.drop (m + 1)) (O.drop (A + 1)) = blameStep k s O by
                rw [← HX.out, HST.out, if_pos rfl, hdr, List.append_assoc]
                rfl)
              have aw : IntKind.i64.wrap ((A : Int) + 1) = ((A + 1 : Nat) : Int) := (IntWalk.i64_in _ (by omega)).trans (by omega)
              have hA2 : (A : Int) < (O.length : Int) := by omega
              have HAL := hid (show (sideS 2 (s.drop (m + 1))).length + (A + 1) = O.length by omega)
              have hXm : (nI X).length ≤ 4000000000 := by have := HXL.out; rw [nI_length]; omega
              cases q3
              clear hzz hOp hdr HX HST hAl HA
              go_wp2_with (refine wpList_append_int (w := wr) (by rfl) (.tmp 50) (.tmp 55) (by rfl) w2.heap.size _ (nI X) (p : Int) (by rfl) HN.out (by rfl) hXm hzx ?_; intro v5 w5 hO5 B5 K5; have HO5 := hid (show w5.ownsRow w2.heap.size 3 1 v5 (nI (X ++ [p])).length (intCells (nI (X ++ [p]))) by rw [nI_append]; exact hO5); have hb5 := hbx.trans B5; clear hO5 B5 K5)
              go_wp2_with fail
              go_roundg (s.length - (m + 1))
              case measure => omega
              case rel => exact ⟨m + 1, A + 1, X ++ [p], by omega, rfl, by go_num, rfl, HX2, HAL, HO5, hid (by have := HXL.out; rw [List.length_append, List.length_singleton]; omega), hb5⟩
            · by_cases h2 : c = 2
              · subst h2
                rw [if_pos (.inr rfl)] at hAl
                have HX2 := hid (show X ++ blameStep k (s.drop (m + 1)) (O.drop (A + 1)) = blameStep k s O by
                  rw [← HX.out, HST.out, if_neg (by decide), if_pos rfl, List.tail_drop])
                have aw : IntKind.i64.wrap ((A : Int) + 1) = ((A + 1 : Nat) : Int) := (IntWalk.i64_in _ (by omega)).trans (by omega)
                have HAL := hid (show (sideS 2 (s.drop (m + 1))).length + (A + 1) = O.length by omega)
                clear HX HST hAl HA h1
                go_wp2_with fail
                go_roundg (s.length - (m + 1))
                case measure => omega
                case rel => exact ⟨m + 1, A + 1, X, by omega, rfl, by go_num, rfl, HX2, HAL, HN, hid (by have := HXL.out; omega), hbx⟩
              · rw [if_neg (fun h => h.elim h1 h2)] at hAl
                have HX2 := hid (show (X ++ [k]) ++ blameStep k (s.drop (m + 1)) (O.drop A) = blameStep k s O by
                  rw [← HX.out, HST.out, if_neg h1, if_neg h2, List.append_assoc]
                  rfl)
                have HAL := hid (show (sideS 2 (s.drop (m + 1))).length + A = O.length by omega)
                have hXm : (nI X).length ≤ 4000000000 := by have := HXL.out; rw [nI_length]; omega
                have c1b : (c == 1) = false := by simpa using h1
                have c2b : (c == 2) = false := by simpa using h2
                clear HX HST hAl HA h1 h2
                go_wp2_with (refine wpList_append_int (w := wr) (by rfl) (.tmp 44) (.tmp 46) (by rfl) w2.heap.size _ (nI X) (k : Int) (by rfl) HN.out (by rfl) hXm hzx ?_; intro v5 w5 hO5 B5 K5; have HO5 := hid (show w5.ownsRow w2.heap.size 3 1 v5 (nI (X ++ [k])).length (intCells (nI (X ++ [k]))) by rw [nI_append]; exact hO5); have hb5 := hbx.trans B5; clear hO5 B5 K5)
                go_wp2_with fail
                go_roundg (s.length - (m + 1))
                case measure => omega
                case rel => exact ⟨m + 1, A, X ++ [k], by omega, rfl, by go_num, rfl, HX2, HAL, HO5, hid (by have := HXL.out; rw [List.length_append, List.length_singleton]; omega), hb5⟩
          · obtain rfl : m = s.length := by omega
            have hneg : ¬ (s.length : Int) < (s.length : Int) := by omega
            have hXe : X = blameStep k s O := by
              have := HX.out
              rw [List.drop_length] at this
              rw [← this]
              exact (List.append_nil X).symm
            have HF := hid (show blameS ls = blameFrom (k + 1) cur X (ls.drop (k + 1)) by rw [hXe]; exact HB2.out)
            have HXC := hid (show X.length = cur.length by rw [hXe]; exact HLN.out)
            have HSL := hid (Sl.ofOwns HN.out)
            have hbf := below_step hbr hbx hzr
            clear hXe
            go_wp2_with fail
            go_roundg (ls.length - (k + 1))
            case measure => omega
            case rel => exact ⟨k + 1, cur, X, by omega, by omega, rfl, rfl, HE1, HXC, HF, HSL, hbf⟩
      · obtain rfl : k = ls.length := by omega
        have hneg : ¬ (ls.length : Int) < (ls.length : Int) := by omega
        have HF := hid (show blameS ls = O by rw [HB.out, List.drop_length]; rfl)
        go_wp2_with fail
        go_ret
        refine ⟨_, rfl, ?_, hbel⟩
        rw [HF.out]
        rw [hOl] at HS
        exact HS.out
end
end Go.Proofs.Ytikemkgedmbijaa
