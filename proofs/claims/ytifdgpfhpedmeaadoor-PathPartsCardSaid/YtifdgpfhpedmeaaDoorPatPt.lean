/-
  PathParts: parts, with slashes between, are the name; a name of right parts is right, if it is not too long; one more slash makes it wrong.
-/
import Derived.Test.YtifdgpfhpedmeaaDoorPthAw
import Derived.Test.YtifdgpfhpedmeaaDoorTabU
import Derived.Test.YtifdgpfhpedmeaaDoorLit
import Derived.Test.YtifdgpfhpedmeaaDoorOpenS
import Derived.Deep.LoopGhost
import Derived.ProofKit
import Derived.OpenShut
namespace Go.Proofs.YtifdgpfhpedmeaaDoor.pathParts
open Go.ChangeShapes Go.WideShapes Go.ChangeAt Go.RowKit

section
set_option maxRecDepth 100000
set_option maxHeartbeats 4000000
theorem walk (v : Value) (l : List (List UInt8)) (w : World) (h : FactStrs w v l) :
    Calls Tryd.prog 5 #[v] w fun e w' => e = .returned (.bool true) ∧ Below w.heap.size w w' := by
  obtain ⟨ao, cap, rfl⟩ := h.1.form
  have HV := hid h.1
  clear h
  rw [strCells_length] at HV ⊢
  by_cases hl : 1 ≤ l.length ∧ l.length ≤ 8
  · have l1 : ((l.length : Int) == 0) = false := beq_false_of_ne (by omega)
    have l2 : decide (8 < (l.length : Int)) = false := decide_eq_false (by omega)
    have l3 : decide (8 < l.length) = false := decide_eq_false (by omega)
    have l4 : (l.length == 0) = false := beq_false_of_ne (by omega)
    have HL := hid hl
    clear hl
    go_enter Tryd.func5, Tryd.ntmps5
    go_wp2_with fail
    go_loopg [3, 4, 5] l.length (fun g s r i wx => ∃ (k : Nat) (S : List UInt8) (R : Bool), k ≤ l.length ∧ l.length - k = g ∧ i = .int .i64 k ∧ s = .string ⟨S.toArray⟩ ∧ r = .bool R ∧ Hid (S = joinSl (l.take k)) ∧ Hid (R = (l.take k).all goodPart) ∧ Hid (S.length ≤ 21 * k) ∧ Below w.heap.size w wx)
    case atStart => exact ⟨0, [], true, Nat.zero_le _, rfl, rfl, rfl, rfl, hid rfl, hid rfl, hid (Nat.zero_le _), Below.refl _ _⟩
    case round =>
      obtain ⟨k, S, R, hk, rfl, rfl, rfl, rfl, HS, HR, HSL, hbx⟩ := hrel
      have hzx := hbx.size
      have k0 : (0 : Int) ≤ (k : Int) := Int.natCast_nonneg _
      have hll := HL.out
      have hsl := HSL.out
      by_cases hlt : k < l.length
      · have k1 : (k : Int) < (l.length : Int) := by omega
        have kw : IntKind.i64.wrap ((k : Int) + 1) = (k : Int) + 1 := IntWalk.i64_in _ (by omega)
        obtain ⟨a, x, rfl, hc, hx⟩ := (Sl.old HV.out hbx).strAt' (i := k) hlt
        by_cases h20 : x.length ≤ 20
        · have x1 : decide (20 < (x.length : Int)) = false := decide_eq_false (by omega)
          have x2 : decide (20 < x.length) = false := decide_eq_false (by omega)
          have htk : l.take (k + 1) = l.take k ++ [x] := by rw [List.take_add_one, hx]; rfl
          have hG : (l.take (k + 1)).all goodPart = ((l.take k).all goodPart && goodPart x) := by rw [htk, List.all_append]; simp
          rw [← HR.out] at hG
          have HRT := hid (fun wx => DRightP_any x wx (by omega))
          have HPT := hid (fun wx => DParts_any x wx (by omega))
          have hgp : goodPart x = (rightS x && decide ((partsS x).length = 1)) := rfl
          obtain ⟨pl, hpl⟩ : ∃ pl, partsS x = pl := ⟨_, rfl⟩
          obtain ⟨rx, hrx⟩ : ∃ r, rightS x = r := ⟨_, rfl⟩
          rw [hpl] at HPT hgp
          rw [hrx] at HRT hgp
          unfold strV at HRT HPT
          -- the text
          have hS2 : ∃ S2, S2 = joinSl (l.take (k + 1)) ∧ S2.length ≤ 21 * (k + 1) ∧ ((k = 0 ∧ S2 = S ++ x) ∨ (0 < k ∧ S2 = S ++ [47] ++ x)) := by
            by_cases hk0 : k = 0
            · subst hk0
              have e0 : S = [] := by rw [HS.out]; rfl
              refine ⟨x, ?_, by omega, .inl ⟨rfl, by rw [e0]; rfl⟩⟩
              rw [htk]
              rfl
            · have hne : l.take k ≠ [] := fun e => by
                have := congrArg List.length e
                rw [List.length_take, List.length_nil] at this
                omega
              refine ⟨S ++ [47] ++ x, ?_, by simp; omega, .inr ⟨by omega, rfl⟩⟩
              rw [htk, joinSl_snoc hne, HS.out]
              simp
          obtain ⟨S2, hS2, hS2l, hS2c⟩ := hS2
          have HS2 := hid hS2
          have HS2L := hid hS2l
          have hfin : ∀ (g : Bool), (R && goodPart x) = g → Hid (g = (l.take (k + 1)).all goodPart) := fun g h => hid (by rw [hG, h])
          rcases hS2c with ⟨hk0, hSx⟩ | ⟨hk0, hSx⟩
          · have d1 : decide (0 < (k : Int)) = false := decide_eq_false (by omega)
            have d2 : decide (0 < k) = false := decide_eq_false (by omega)
            have d3 : ¬ (0 : Int) < (k : Int) := by omega
            have ad := run_str_add (P := Tryd.prog) S x (by omega)
            rw [← hSx] at ad
            clear htk hG hpl hrx hS2 hS2l hSx hx hll hsl h20 HS HR hk0
            cases R with
            | false =>
              have HF := hfin false rfl
              clear hfin HRT HPT hgp
              go_wp2_with fail
              go_roundg (l.length - (k + 1))
              case measure => omega
              case rel => exact ⟨k + 1, S2, false, by omega, rfl, by go_num, rfl, rfl, HS2, HF, HS2L, hbx⟩
            | true =>
              cases rx with
              | false =>
                have HF := hfin false (by rw [hgp]; rfl)
                clear hfin HPT hgp
                go_wp2_with (go_at_call 11; with_reducible refine (HRT.out _).mono ?_; rintro e w1 ⟨rfl, hb1⟩; have HB1 := hid (below_step hbx hb1 hzx); clear hb1)
                go_roundg (l.length - (k + 1))
                case measure => omega
                case rel => exact ⟨k + 1, S2, false, by omega, rfl, by go_num, rfl, rfl, HS2, HF, HS2L, HB1.out⟩
              | true =>
                by_cases hp1 : pl.length = 1
                · have HF := hfin true (by rw [hgp, decide_eq_true hp1]; rfl)
                  have HP1 := hid hp1
                  clear hfin hgp hp1
                  go_wp2_with (first
                    | (go_at_call 11; with_reducible refine (HRT.out _).mono ?_; rintro e w1 ⟨rfl, hb1⟩; have hc1 := (World.cell?_of_block (w := wr) (hb1.block _ (World.block_lt_of_cell? wr _ hc))).trans hc; have HB1 := hid (below_step hbx hb1 hzx); clear hb1)
                    | (go_at_call 9; with_reducible refine (HPT.out _).mono ?_; rintro e w2 ⟨u2, rfl, s2, hb2⟩
                       obtain ⟨ua, uc, rfl⟩ := s2.form
                       rw [strCells_length, HP1.out]
                       have HB2 := hid (below_step HB1.out hb2 HB1.out.size); clear s2 hb2))
                  go_roundg (l.length - (k + 1))
                  case measure => omega
                  case rel => exact ⟨k + 1, S2, true, by omega, rfl, by go_num, rfl, rfl, HS2, HF, HS2L, HB2.out⟩
                · have HF := hfin false (by rw [hgp, decide_eq_false hp1]; rfl)
                  have q1 : ((pl.length : Int) == 1) = false := by simp; omega
                  have q2 : (pl.length == 1) = false := by simpa using hp1
                  clear hfin hgp hp1
                  go_wp2_with (first
                    | (go_at_call 11; with_reducible refine (HRT.out _).mono ?_; rintro e w1 ⟨rfl, hb1⟩; have hc1 := (World.cell?_of_block (w := wr) (hb1.block _ (World.block_lt_of_cell? wr _ hc))).trans hc; have HB1 := hid (below_step hbx hb1 hzx); clear hb1)
                    | (go_at_call 9; with_reducible refine (HPT.out _).mono ?_; rintro e w2 ⟨u2, rfl, s2, hb2⟩
                       obtain ⟨ua, uc, rfl⟩ := s2.form
                       rw [strCells_length]
                       have HB2 := hid (below_step HB1.out hb2 HB1.out.size); clear s2 hb2))
                  go_roundg (l.length - (k + 1))
                  case measure => omega
                  case rel => exact ⟨k + 1, S2, false, by omega, rfl, by go_num, rfl, rfl, HS2, HF, HS2L, HB2.out⟩
          · have d1 : decide (0 < (k : Int)) = true := decide_eq_true (by omega)
            have d2 : decide (0 < k) = true := decide_eq_true (by omega)
            have d3 : (0 : Int) < (k : Int) := by omega
            have ad0 := run_str_add (P := Tryd.prog) S [47] (by simp; omega)
            have ad := run_str_add (P := Tryd.prog) (S ++ [47]) x (by simp; omega)
            rw [← hSx] at ad
            obtain ⟨S1, hS1⟩ : ∃ z, S ++ [47] = z := ⟨_, rfl⟩
            rw [hS1] at ad0 ad
            clear htk hG hpl hrx hS2 hS2l hSx hx hll hsl h20 HS HR hS1 hk0
            cases R with
            | false =>
              have HF := hfin false rfl
              clear hfin HRT HPT hgp
              go_wp2_with fail
              go_roundg (l.length - (k + 1))
              case measure => omega
              case rel => exact ⟨k + 1, S2, false, by omega, rfl, by go_num, rfl, rfl, HS2, HF, HS2L, hbx⟩
            | true =>
              cases rx with
              | false =>
                have HF := hfin false (by rw [hgp]; rfl)
                clear hfin HPT hgp
                go_wp2_with (go_at_call 11; with_reducible refine (HRT.out _).mono ?_; rintro e w1 ⟨rfl, hb1⟩; have HB1 := hid (below_step hbx hb1 hzx); clear hb1)
                go_roundg (l.length - (k + 1))
                case measure => omega
                case rel => exact ⟨k + 1, S2, false, by omega, rfl, by go_num, rfl, rfl, HS2, HF, HS2L, HB1.out⟩
              | true =>
                by_cases hp1 : pl.length = 1
                · have HF := hfin true (by rw [hgp, decide_eq_true hp1]; rfl)
                  have HP1 := hid hp1
                  clear hfin hgp hp1
                  go_wp2_with (first
                    | (go_at_call 11; with_reducible refine (HRT.out _).mono ?_; rintro e w1 ⟨rfl, hb1⟩; have hc1 := (World.cell?_of_block (w := wr) (hb1.block _ (World.block_lt_of_cell? wr _ hc))).trans hc; have HB1 := hid (below_step hbx hb1 hzx); clear hb1)
                    | (go_at_call 9; with_reducible refine (HPT.out _).mono ?_; rintro e w2 ⟨u2, rfl, s2, hb2⟩
                       obtain ⟨ua, uc, rfl⟩ := s2.form
                       rw [strCells_length, HP1.out]
                       have HB2 := hid (below_step HB1.out hb2 HB1.out.size); clear s2 hb2))
                  go_roundg (l.length - (k + 1))
                  case measure => omega
                  case rel => exact ⟨k + 1, S2, true, by omega, rfl, by go_num, rfl, rfl, HS2, HF, HS2L, HB2.out⟩
                · have HF := hfin false (by rw [hgp, decide_eq_false hp1]; rfl)
                  have q1 : ((pl.length : Int) == 1) = false := by simp; omega
                  have q2 : (pl.length == 1) = false := by simpa using hp1
                  clear hfin hgp hp1
                  go_wp2_with (first
                    | (go_at_call 11; with_reducible refine (HRT.out _).mono ?_; rintro e w1 ⟨rfl, hb1⟩; have hc1 := (World.cell?_of_block (w := wr) (hb1.block _ (World.block_lt_of_cell? wr _ hc))).trans hc; have HB1 := hid (below_step hbx hb1 hzx); clear hb1)
                    | (go_at_call 9; with_reducible refine (HPT.out _).mono ?_; rintro e w2 ⟨u2, rfl, s2, hb2⟩
                       obtain ⟨ua, uc, rfl⟩ := s2.form
                       rw [strCells_length]
                       have HB2 := hid (below_step HB1.out hb2 HB1.out.size); clear s2 hb2))
                  go_roundg (l.length - (k + 1))
                  case measure => omega
                  case rel => exact ⟨k + 1, S2, false, by omega, rfl, by go_num, rfl, rfl, HS2, HF, HS2L, HB2.out⟩
        · have x1 : decide (20 < (x.length : Int)) = true := decide_eq_true (by omega)
          have x2 : decide (20 < x.length) = true := decide_eq_true (by omega)
          have x3 : (20 : Int) < (x.length : Int) := by omega
          clear hx hll hsl h20
          go_wp2_with (go_at_call 7; refine (awake_any _).mono ?_; rintro e w1 ⟨rfl, hb1⟩; have HB1 := hid (below_step hbx hb1 hzx); clear hb1)
          go_ret
          exact ⟨rfl, HB1.out⟩
      · obtain rfl : k = l.length := by omega
        have hneg : ¬ (l.length : Int) < (l.length : Int) := by omega
        have hS : S = joinSl l := by rw [HS.out, List.take_length]
        have hR : R = l.all goodPart := by rw [HR.out, List.take_length]
        have hsl2 : S.length ≤ 168 := by omega
        have e1 := run_str_add (P := Tryd.prog) S [47] (by simp; omega)
        have e2 := run_str_add (P := Tryd.prog) [47] S (by simp; omega)
        have e3 := run_str_add (P := Tryd.prog) S [47, 46, 46, 47, 97] (by simp; omega)
        have H1 := hid (fun wx => DRightP_any (S ++ [47]) wx (by simp; omega))
        have H2 := hid (fun wx => DRightP_any (47 :: S) wx (by simp; omega))
        have H3 := hid (fun wx => DRightP_any [] wx (by simp))
        have H4 := hid (fun wx => DRightP_any (S ++ [47, 46, 46, 47, 97]) wx (by simp; omega))
        rw [right_slash] at H1
        rw [slash_right] at H2
        rw [show rightS [] = false from rfl] at H3
        rw [right_dots] at H4
        rw [show [47] ++ S = 47 :: S from rfl] at e2
        have H5 := hid (fun wx => DRightP_any S wx (by omega))
        have H6 := hid (fun wx => DParts_any S wx (by omega))
        have HJ := hid (show R = true → S.length ≤ 100 → rightS S = true ∧ partsS S = l from fun h1 h2 => by
          rw [hS] at h2 ⊢
          exact right_join (fun e => by rw [e] at hll; simp at hll) (by rw [← hR]; exact h1) h2)
        have HVX := hid (Sl.old HV.out hbx)
        have HBX := hid hbx
        unfold strV at H1 H2 H3 H4 H5 H6
        clear hS hR hsl HS HR HV hbx hzx
        obtain ⟨y1, hy1⟩ : ∃ z, S ++ [47] = z := ⟨_, rfl⟩
        obtain ⟨y2, hy2⟩ : ∃ z, 47 :: S = z := ⟨_, rfl⟩
        obtain ⟨y3, hy3⟩ : ∃ z, S ++ [47, 46, 46, 47, 97] = z := ⟨_, rfl⟩
        rw [hy1] at e1 H1
        rw [hy2] at e2 H2
        rw [hy3] at e3 H4
        clear hy1 hy2 hy3 hll
        cases R with
        | false =>
          clear HJ H5 H6 hsl2
          go_wp2_with (first
            | (go_at_call 7; refine (awake_any _).mono ?_; rintro e w1 ⟨rfl, hb1⟩; have HB1 := hid (below_step HBX.out hb1 HBX.out.size); clear hb1)
            | (go_at_call 11; with_reducible refine (H1.out _).mono ?_; rintro e z1 ⟨rfl, hz1⟩; have HBa := hid (below_step HB1.out hz1 HB1.out.size); clear hz1)
            | (go_at_call 11; with_reducible refine (H2.out _).mono ?_; rintro e z2 ⟨rfl, hz2⟩; have HBb := hid (below_step HBa.out hz2 HBa.out.size); clear hz2)
            | (go_at_call 11; with_reducible refine (H3.out _).mono ?_; rintro e z3 ⟨rfl, hz3⟩; have HBc := hid (below_step HBb.out hz3 HBb.out.size); clear hz3)
            | (go_at_call 11; with_reducible refine (H4.out _).mono ?_; rintro e z4 ⟨rfl, hz4⟩; have HB7 := hid (below_step HBc.out hz4 HBc.out.size); clear hz4))
          go_ret
          exact ⟨rfl, HB7.out⟩
        | true =>
          by_cases h100 : S.length ≤ 100
          · obtain ⟨j1, j2⟩ := HJ.out rfl h100
            have s1 : decide (100 < (S.length : Int)) = false := decide_eq_false (by omega)
            have s2 : decide (100 < S.length) = false := decide_eq_false (by omega)
            rw [j1] at H5
            rw [j2] at H6
            clear HJ j1 j2 h100 hsl2
            go_wp2_with (first
              | (go_at_call 7; refine (awake_any _).mono ?_; rintro e w1 ⟨rfl, hb1⟩; have HV1 := hid (Sl.old HVX.out hb1); have HB1 := hid (below_step HBX.out hb1 HBX.out.size); clear hb1)
              | (go_at_call 11; with_reducible refine (H5.out _).mono ?_; rintro e w2 ⟨rfl, hb2⟩; have HV2 := hid (Sl.old HV1.out hb2); have HB2 := hid (below_step HB1.out hb2 HB1.out.size); clear hb2)
              | (go_at_call 9; with_reducible refine (H6.out _).mono ?_; rintro e w3 ⟨u3, rfl, s3, hb3⟩
                 obtain ⟨ua, uc, rfl⟩ := s3.form
                 have S3 := hid s3; have HV3 := hid (Sl.old HV2.out hb3); have HB3 := hid (below_step HB2.out hb3 HB2.out.size); clear s3 hb3)
              | (go_at_call 8; refine (SPlain_any _ _ l l _ S3.out HV3.out (by have := HL.out; unfold maxLen; omega)).mono ?_; rintro e _ ⟨rfl, q5, rfl⟩
                 rw [show (l == l) = true by simp]
                 have HB4 := hid (below_step HB3.out (below_drewN _ q5) HB3.out.size))
              | (go_at_call 11; with_reducible refine (H1.out _).mono ?_; rintro e z1 ⟨rfl, hz1⟩; have HBa := hid (below_step HB4.out hz1 HB4.out.size); clear hz1)
              | (go_at_call 11; with_reducible refine (H2.out _).mono ?_; rintro e z2 ⟨rfl, hz2⟩; have HBb := hid (below_step HBa.out hz2 HBa.out.size); clear hz2)
              | (go_at_call 11; with_reducible refine (H3.out _).mono ?_; rintro e z3 ⟨rfl, hz3⟩; have HBc := hid (below_step HBb.out hz3 HBb.out.size); clear hz3)
              | (go_at_call 11; with_reducible refine (H4.out _).mono ?_; rintro e z4 ⟨rfl, hz4⟩; have HB7 := hid (below_step HBc.out hz4 HBc.out.size); clear hz4))
            go_ret
            exact ⟨rfl, HB7.out⟩
          · have s1 : decide (100 < (S.length : Int)) = true := decide_eq_true (by omega)
            have s2 : decide (100 < S.length) = true := decide_eq_true (by omega)
            clear HJ H5 H6 h100 hsl2
            go_wp2_with (first
              | (go_at_call 7; refine (awake_any _).mono ?_; rintro e w1 ⟨rfl, hb1⟩; have HB1 := hid (below_step HBX.out hb1 HBX.out.size); clear hb1)
              | (go_at_call 11; with_reducible refine (H1.out _).mono ?_; rintro e z1 ⟨rfl, hz1⟩; have HBa := hid (below_step HB1.out hz1 HB1.out.size); clear hz1)
              | (go_at_call 11; with_reducible refine (H2.out _).mono ?_; rintro e z2 ⟨rfl, hz2⟩; have HBb := hid (below_step HBa.out hz2 HBa.out.size); clear hz2)
              | (go_at_call 11; with_reducible refine (H3.out _).mono ?_; rintro e z3 ⟨rfl, hz3⟩; have HBc := hid (below_step HBb.out hz3 HBb.out.size); clear hz3)
              | (go_at_call 11; with_reducible refine (H4.out _).mono ?_; rintro e z4 ⟨rfl, hz4⟩; have HB7 := hid (below_step HBc.out hz4 HBc.out.size); clear hz4))
            go_ret
            exact ⟨rfl, HB7.out⟩
  · by_cases h0 : l.length = 0
    · obtain rfl : l = [] := List.eq_nil_of_length_eq_zero h0
      clear hl h0
      go_enter Tryd.func5, Tryd.ntmps5
      go_wp2_with fail
      refine (awake_any w).mono ?_
      rintro e w2 ⟨rfl, hb⟩
      go_wp2_with fail
      go_ret
      exact ⟨rfl, hb⟩
    · have l1 : ((l.length : Int) == 0) = false := beq_false_of_ne (by omega)
      have l4 : (l.length == 0) = false := beq_false_of_ne (by omega)
      have l2 : decide (8 < (l.length : Int)) = true := decide_eq_true (by omega)
      have l3 : decide (8 < l.length) = true := decide_eq_true (by omega)
      clear hl h0
      go_enter Tryd.func5, Tryd.ntmps5
      go_wp2_with fail
      refine (awake_any w).mono ?_
      rintro e w2 ⟨rfl, hb⟩
      go_wp2_with fail
      go_ret
      exact ⟨rfl, hb⟩
end
theorem own : ownKnob Tryd.prog.godebug = none := by kernel_rfl
theorem laidOut : laidOutB Tryd.prog = true := by kernel_rfl
theorem laid_met (os : Os) : laidMet Tryd.prog Rows.pathPartsRow.laid ((laidWorld os).forCall (fun _ _ => 0) ⟨#[], #[.slice none 0 0], []⟩).memory :=
  laidMet_of_run' 8 (by kernel_rfl) (by kernel_rfl)
theorem reads (os : Os) {H : Type} (enc : TypeId × Value → H) : ∃ places, DataW.whole enc Tryd.prog ((laidWorld os).forCall (fun _ _ => 0) ⟨#[], #[.slice none 0 0], []⟩).memory Tryd.f5.params.toList Rows.pathPartsSpec.vars false (#[.slice none 0 0] : Array Value).toList 8 = some ([.nil], [], places) :=
  ⟨[], by kernel_rfl⟩

set_option maxRecDepth 100000 in
theorem contract (H : Type) (enc : TypeId × Value → H) (W : World) (base : Nat) (args : Array Value) (ds gs : List (DataW H)) (before : List MemPlace)
    (hval : ∀ (j : Nat) t v, Tryd.f5.params[j]? = some t → args[j]? = some v → Value.okWide Tryd.prog W .any base t v)
    (hW : DataW.Whole enc Tryd.prog Tryd.f5.params.toList Rows.pathPartsSpec.vars false W args.toList ds gs before) (_hL : laidMetH Tryd.prog Rows.pathPartsRow.laid W) :
    Calls Tryd.prog 5 args W fun e W' => ∃ v, e = .returned v ∧ Rows.pathPartsSpec.post enc Tryd.prog Tryd.f5 false true false false W args v W' := by
  have hW' := hW
  obtain ⟨p, q, hA0, hV, rfl, hfz, hnd⟩ := hW
  have hA : DataW.TrodAll enc Tryd.prog W 0 (fun _ => true) true Tryd.f5.params.toList args.toList ds p := hA0
  rw [Tryd.params5] at hA hval
  obtain ⟨v0, vs0, d0, ds0, p0, q0, hargs, rfl, rfl, h0, r0⟩ := trodAll_cons hA
  obtain ⟨rfl, rfl, rfl⟩ := trodAll_nil r0
  obtain rfl : args = #[v0] := by cases args; simp_all
  obtain ⟨rfl, rfl⟩ := trodVars_none hV
  have k0 := h0
  have lt0 : ∀ x ∈ p0, x.block < W.heap.size := by obtain ⟨m, hm⟩ := k0; exact DataW.trod_lt m _ _ _ hm
  obtain ⟨x0, l0, c0, rfl⟩ := okWide_slice Tryd.underlying24 (hval 0 24 v0 rfl rfl)
  obtain ⟨a0, w0, e0⟩ : ∃ a, FactStrs W (.slice x0 l0 c0) a ∧ ((d0 = .nil ∧ a = []) ∨ ∃ rest, d0 = .slice (dataStrs a) rest) := by
    obtain ⟨fuel, hf⟩ := h0
    obtain ⟨v', a, hcs, hs, hx⟩ := open_strL Tryd.underlying24 Tryd.underlying9 (by kernel_rfl) hf
    obtain rfl : v' = .slice x0 l0 c0 := by simpa [Value.cells] using hcs.symm
    exact ⟨a, hs, hx⟩
  clear e0
  clear hA0
  refine (walk (.slice x0 l0 c0) a0 W w0).mono fun e W' ⟨he, bel⟩ => ?_
  subst he
  exact ⟨_, rfl, _, _, _, [], _, [], hW', trodAll_mk1 (shut_bool Tryd.underlying4 _), (trodAll_cons_mk (Below.trod laidOut (by kernel_rfl) (of_decide_eq_true (by kernel_rfl)) k0 bel lt0) trodAll_mk0), rfl, bel.frame _, fun h => by cases h⟩

set_option maxRecDepth 100000 in
theorem lifted (os : Os) (started : os.Started) (H : Type) (enc : TypeId × Value → H) (F : Stop.Interp) :
    ReturnsInHanded {} Tryd.checked os 5 .any ((OpenSpec.ofChange Rows.pathPartsSpec).preRow enc Tryd.prog Tryd.f5 Rows.pathPartsRow.domain false Rows.pathPartsRow.laid) (((OpenSpec.ofChange Rows.pathPartsSpec).at F).post enc Tryd.prog Tryd.f5 false true false false) := by
  obtain ⟨places, hx⟩ := reads os enc
  refine returnsInHanded_of_row (C := Tryd.checked) (s := OpenSpec.ofChange Rows.pathPartsSpec) own started (by kernel_rfl) Tryd.func5
    (witness_row_at (enc := enc) (C := Tryd.checked) false (laidWorld os) #[.slice none 0 0] rfl (by kernel_rfl) (by kernel_rfl) (by kernel_rfl)
      (OpenSpec.preRow_of_cond 8 hx (by kernel_rfl) (fun k hk => by cases hk) (by kernel_rfl) (laid_met os))) ?_
  intro W base args ds gs before hval hW _ _ _ hL _ _
  exact contract H enc W base args ds gs before hval hW hL

theorem said : Rows.PathPartsSaid :=
  OpenClaim.holds_of_cond 5 Tryd.f5 rfl rfl rfl rfl rfl rfl rfl ⟨rfl, rfl, rfl, rfl, rfl⟩ rfl rfl rfl rfl rfl (by kernel_rfl) Tryd.func5 (by kernel_rfl)
    (of_decide_eq_true (by kernel_rfl)) (by unfold Func.isWrapper; first | (rw [if_pos (by decide +kernel)]; kernel_rfl) | (rw [if_neg (by decide +kernel)]; exact ⟨rfl, rfl⟩))
    (fun os started H enc _ F => by rw [OpenClaim.pre_eq_preRow]; exact lifted os started H enc F)

theorem plain (f : FuncId) (fn : Func) (hf : Tryd.pinned.checked.prog.funcNamed "rick/ricklaw11.PathParts" = some f) (hfn : Tryd.pinned.checked.prog.funcs[f]? = some fn) :
    false = Tryd.pinned.checked.prog.looks [] ∧ ∀ (j : Nat) t, fn.params[j]? = some t → Tryd.pinned.checked.prog.wantsStandIn t = false := by
  obtain rfl : f = 5 := Option.some.inj ((show Tryd.prog.funcNamed "rick/ricklaw11.PathParts" = some 5 by kernel_rfl).symm.trans hf) |>.symm
  obtain rfl : fn = Tryd.f5 := (Option.some.inj (Tryd.func5.symm.trans hfn)).symm
  refine ⟨by kernel_rfl, fun j t ht => ?_⟩
  rw [Tryd.params5] at ht
  have hm := Array.mem_of_getElem? ht
  simp only [List.mem_toArray, List.mem_cons, List.not_mem_nil, or_false] at hm
  rcases hm with rfl
  · exact (show Tryd.prog.wantsStandIn 24 = false by kernel_rfl)

/-- The statement. -/
theorem proved : Rows.PathPartsCardSaid :=
  Claim7.holds_tied_plain_at .later [] _ _ _ _ said (fun _ h => by cases h) (by kernel_rfl) (fun _ h => by cases h) pathParts_row_tie rfl ⟨rfl, rfl⟩ (by kernel_rfl) rfl plain (by kernel_rfl)
#print axioms proved
end Go.Proofs.YtifdgpfhpedmeaaDoor.pathParts
