/-
  Package tree (landed): folders, nested, Right, each by a contract.
-/
import Derived.Test.YtndmblelkeepjaaGreatDoorPtrE
import Derived.Test.YtndmblelkeepjaaGreatDoorPtrD
import Derived.Test.YtndmblelkeepjaaGreatDoorConv
namespace Go.Proofs.YtndmblelkeepjaaGreatDoor
open Go.RowKit
open BigFrame

section
set_option maxRecDepth 100000
set_option maxHeartbeats 4000000
theorem DFolders_any (p : Txt) (w : World) (hl : p.length ≤ 1000000) :
    Calls Tryz.prog 50 #[strV p] w fun e w' => ∃ u, e = .returned u ∧ OwnT w' w.heap.size u (foldersS p) ∧ Below w.heap.size w w' := by
  have HL := hid hl
  obtain ⟨cap, wc, hcv, hsc, hzc, hbc⟩ := conv_sl (P := Tryz.prog) w 9 93 5 p Tryz.underlying9 Tryz.underlying93 Tryz.underlying5
  have HS := hid hsc
  have HBC := hid hbc
  have HST := hid (fun (k : Nat) (h : k ≤ p.length) (wx : World) => run_str_to (P := Tryz.prog) 9 Tryz.underlying9 p k h wx)
  clear hsc hbc hl
  unfold strV
  go_enter Tryz.func50, Tryz.ntmps50
  go_wp2_with fail
  go_loopg [3, 4, 5, 9] p.length (fun g r _ _ i wr => ∃ k : Nat, k ≤ p.length ∧ p.length - k = g ∧ i = .int .i64 k ∧ Hid (OwnT wr wc.heap.size r (foldK p k)) ∧ Hid (Below wc.heap.size wc wr))
  case atStart => exact ⟨0, Nat.zero_le _, rfl, rfl, hid (World.ownsRow_nil _ _ _ _), hid (Below.refl _ _)⟩
  case round =>
    obtain ⟨k, hk, rfl, rfl, HO, HB⟩ := hrel
    have k0 : (0 : Int) ≤ (k : Int) := Int.natCast_nonneg _
    have HFL := hid (foldK_len p k)
    obtain ⟨X, hX⟩ : ∃ X, foldK p k = X := ⟨_, rfl⟩
    have HX := hid hX
    rw [hX] at HO HFL
    clear hX
    obtain ⟨no, nc, rfl⟩ := owns_form HO.out
    by_cases hlt : k < p.length
    · have k1 : (k : Int) < (p.length : Int) := by omega
      have kw : IntKind.i64.wrap ((k : Int) + 1) = (k : Int) + 1 := IntWalk.i64_in _ (by have := HL.out; omega)
      obtain ⟨a, c, hae, hcell, hc⟩ := (HS.out.old HB.out).byteAt' (i := k) hlt
      cases hae
      rw [Addr.add_lit, Nat.zero_add] at hcell
      by_cases h47 : c = 47
      · subst h47
        have HF := hid (show foldK p (k + 1) = X ++ [p.take k] by rw [foldK, if_pos hc, HX.out])
        have hst := HST.out k hk
        have hz : wc.heap.size ≤ wr.heap.size := HB.out.size
        have HLN := hid (show X.length ≤ 100000000 by have := HL.out; have := HFL.out; omega)
        clear hc
        go_wp2_with (at_builtin; refine wpList_append_t1 rfl (.tmp 16) (.tmp 20) rfl wc.heap.size _ X (p.take k) rfl HO.out wr.heap.size rfl rfl HLN.out hz ?_; intro v5 w5 hO5 hb5; have HO5 := hid hO5; have HB5 := hid (HB.out.trans hb5); clear hO5 hb5)
        go_roundg (p.length - (k + 1))
        case measure => omega
        case rel => exact ⟨k + 1, by omega, rfl, by go_num, by rw [HF.out]; exact HO5, HB5⟩
      · have HF := hid (show foldK p (k + 1) = X by
          rw [foldK, if_neg, HX.out]
          rw [hc]
          intro e
          cases e
          exact h47 rfl)
        have b1 : (((c.toNat : Nat) : Int) == 47) = false := beq_false_of_ne fun e => h47 (UInt8.toNat_inj.1 (by rw [show (47 : UInt8).toNat = 47 from rfl]; omega))
        have b2 : (c.toNat == 47) = false := beq_false_of_ne fun e => h47 (UInt8.toNat_inj.1 (by rw [show (47 : UInt8).toNat = 47 from rfl]; omega))
        clear hc h47
        go_wp2_with fail
        go_roundg (p.length - (k + 1))
        case measure => omega
        case rel => exact ⟨k + 1, by omega, rfl, by go_num, by rw [HF.out]; exact HO, HB⟩
    · obtain rfl : k = p.length := by omega
      have hneg : ¬ (p.length : Int) < (p.length : Int) := by omega
      go_wp2_with fail
      go_ret
      refine ⟨_, rfl, ?_, HBC.out.trans (HB.out.mono HBC.out.size)⟩
      unfold foldersS
      rw [HX.out]
      exact owns_lower HO.out HBC.out.size
theorem DNested_any (v : Value) (l : List FileS) (w : World) (hv : SlF w v l) (hl : l.length ≤ 100000) (hp : ∀ f ∈ l, f.1.length ≤ 1000000) :
    Calls Tryz.prog 36 #[v] w fun e w' => e = .returned (.bool (nestedS l)) ∧ Below w.heap.size w w' := by
  obtain ⟨ao, cap, rfl⟩ := hv.form
  have HV := hid hv
  have HL := hid hl
  have HP := hid hp
  have HPO := hid (DPathsOf_any _ l w hv hl)
  have HPL := hid (fun (u : Value) (wy : World) (h : SlT wy u (l.map (·.1))) => DPlaces_any u (l.map (·.1)) wy h (by rw [List.length_map]; omega) (fun p hp' => by
    obtain ⟨f, hf, rfl⟩ := List.mem_map.1 hp'
    have := hp f hf
    unfold maxLen
    omega))
  clear hv hl hp
  go_enter Tryz.func36, Tryz.ntmps36
  go_wp2_with (first
    | (go_at_call 29; refine HPO.out.mono ?_; rintro e w1 ⟨u1, rfl, ho1, hb1⟩; have HO1 := hid ho1.sl; have HB1 := hid hb1; clear ho1 hb1)
    | (go_at_call 28; refine (HPL.out _ _ HO1.out).mono ?_; rintro e w2 ⟨g, rfl, hg, hm, hb2⟩; obtain ⟨mn, mD, hm1, hm2⟩ := hm; have HM := hid hm1; have HSH := hid hm2; have HB2 := hid (below_step HB1.out hb2 HB1.out.size); clear hg hm1 hm2 hb2))
  go_loopg [15] l.length (fun gk i wr => ∃ k : Nat, k ≤ l.length ∧ l.length - k = gk ∧ i = .int .i64 k ∧ Hid (nestedS l = (l.drop k).any fun f => (foldersS f.1).any fun d => inS (l.map (·.1)) d) ∧ Hid (Below w2.heap.size w2 wr))
  case atStart => exact ⟨0, Nat.zero_le _, rfl, rfl, hid (by rw [List.drop_zero]; rfl), hid (Below.refl _ _)⟩
  case round =>
    obtain ⟨k, hk, rfl, rfl, HA, HB⟩ := hrel
    have k0 : (0 : Int) ≤ (k : Int) := Int.natCast_nonneg _
    by_cases hlt : k < l.length
    · have k1 : (k : Int) < (l.length : Int) := by omega
      have kw : IntKind.i64.wrap ((k : Int) + 1) = (k : Int) + 1 := IntWalk.i64_in _ (by have := HL.out; omega)
      obtain ⟨b, o, p, x, t, rfl, he, c1, c2, c3⟩ := SlF.at (HV.out.old (below_step HB2.out HB.out HB2.out.size)) hlt
      have hd := drop_one he
      have hpl := HP.out _ (List.mem_iff_getElem?.2 ⟨k, he⟩)
      have HFD := hid (fun (wy : World) => DFolders_any p wy hpl)
      have HX := hid (show nestedS l = (((foldersS p).any fun d => inS (l.map (·.1)) d) || (l.drop (k + 1)).any fun f => (foldersS f.1).any fun d => inS (l.map (·.1)) d) by rw [HA.out, hd]; rfl)
      have HDL := hid (show ∀ d ∈ foldersS p, d.length ≤ maxLen from fun d hd' => by
        have h := (withinS_iff p d).1 ((folders_mem p d).1 hd')
        obtain ⟨r, hr⟩ := h
        rw [hr] at hpl
        simp at hpl
        unfold maxLen
        omega)
      have HFL := hid (show (foldersS p).length ≤ 1000000 from Nat.le_trans (foldK_len p p.length) hpl)
      have HBA := hid (HB.out.alloc HB.out.size (.cells #[.string ⟨p.toArray⟩, .bool x, .string ⟨t.toArray⟩] 35))
      obtain ⟨F, hF⟩ : ∃ F, foldersS p = F := ⟨_, rfl⟩
      rw [hF] at HFD HX HDL HFL
      unfold strV at HFD
      clear he hd hpl hF HA
      go_wp2_with (go_at_call 50; refine (HFD.out _).mono ?_; rintro e w3 ⟨u3, rfl, ho3, hb3⟩; obtain ⟨fo, fc, rfl⟩ := ho3.sl.form; have HO3 := hid ho3.sl; have HB3 := hid (below_step HBA.out hb3 HBA.out.size); clear ho3 hb3)
      go_loopg [23] F.length (fun gj i wy => ∃ j : Nat, j ≤ F.length ∧ F.length - j = gj ∧ i = .int .i64 j ∧ Hid (nestedS l = (((F.drop j).any fun d => inS (l.map (·.1)) d) || (l.drop (k + 1)).any fun f => (foldersS f.1).any fun d => inS (l.map (·.1)) d)) ∧ w3 = wy)
      case atStart => exact ⟨0, Nat.zero_le _, rfl, rfl, HX, rfl⟩
      case round =>
        obtain ⟨j, hj, rfl, rfl, HY, rfl⟩ := hrel
        have j0 : (0 : Int) ≤ (j : Int) := Int.natCast_nonneg _
        by_cases hlj : j < F.length
        · have j1 : (j : Int) < (F.length : Int) := by omega
          have jw : IntKind.i64.wrap ((j : Int) + 1) = (j : Int) + 1 := IntWalk.i64_in _ (by have := HFL.out; omega)
          obtain ⟨b2, o2, d, rfl, hde, cd⟩ := SlT.at HO3.out hlj
          have hdd := drop_one hde
          have HDE := hid (HDL.out d (List.mem_iff_getElem?.2 ⟨j, hde⟩))
          obtain ⟨is, his⟩ : ∃ z, (idxS (l.map (·.1)) d).isSome = z := ⟨_, rfl⟩
          have HIS := hid his
          have HZ := hid (show nestedS l = ((is || (F.drop (j + 1)).any fun d => inS (l.map (·.1)) d) || (l.drop (k + 1)).any fun f => (foldersS f.1).any fun d => inS (l.map (·.1)) d) by rw [HY.out, hdd, List.any_cons, ← idx_in, his])
          have HMO := hid (OwnP.old HM.out HB3.out)
          clear hde hdd his HY
          cases is with
          | true =>
            have HQ := hid (show nestedS l = true by rw [HZ.out]; rfl)
            clear HZ
            go_wp2_with (at_lookup; refine wpList_lookup_t rfl (.tmp 28) (.tmp 30) rfl g mn mD (l.map (·.1)) d rfl HMO.out HSH.out HDE.out rfl true HIS.out ?_; intro c hc; clear hc)
            go_ret
            exact ⟨by rw [HQ.out]; rfl, below_step HB2.out HB3.out HB2.out.size⟩
          | false =>
            have HQ := hid (show nestedS l = (((F.drop (j + 1)).any fun d => inS (l.map (·.1)) d) || (l.drop (k + 1)).any fun f => (foldersS f.1).any fun d => inS (l.map (·.1)) d) by rw [HZ.out, Bool.false_or])
            clear HZ
            go_wp2_with (at_lookup; refine wpList_lookup_t rfl (.tmp 28) (.tmp 30) rfl g mn mD (l.map (·.1)) d rfl HMO.out HSH.out HDE.out rfl false HIS.out ?_; intro c hc; clear hc)
            go_roundg (F.length - (j + 1))
            case measure => omega
            case rel => exact ⟨j + 1, by omega, rfl, by go_num, HQ, rfl⟩
        · obtain rfl : j = F.length := by omega
          have hneg : ¬ (F.length : Int) < (F.length : Int) := by omega
          have HQ := hid (show nestedS l = (l.drop (k + 1)).any fun f => (foldersS f.1).any fun d => inS (l.map (·.1)) d by rw [HY.out, List.drop_length]; rfl)
          clear HY
          go_wp2_with fail
          go_roundg (l.length - (k + 1))
          case measure => omega
          case rel => exact ⟨k + 1, by omega, rfl, by go_num, HQ, HB3⟩
    · obtain rfl : k = l.length := by omega
      have hneg : ¬ (l.length : Int) < (l.length : Int) := by omega
      have HQ := hid (show nestedS l = false by rw [HA.out, List.drop_length]; rfl)
      go_wp2_with fail
      go_ret
      exact ⟨by rw [HQ.out]; rfl, below_step HB2.out HB.out HB2.out.size⟩
end
end Go.Proofs.YtndmblelkeepjaaGreatDoor
