/-
  LinesEnds: for every text: each line but the last one ends with its end, and has no other one; there are as many as ends, and one more, if something is behind.
-/
import Derived.Test.YtmmnmcdmiacckaaLinAw
import Derived.Test.YtmmnmcdmiacckaaLinE
import Derived.Test.YtmmnmcdmiacckaaOpenS
import Derived.ProofKit
import Derived.OpenShut
import Derived.Deep.LoopGhost
namespace Go.Proofs.Ytmmnmcdmiacckaa.linesEnds
open Go.ChangeShapes Go.WideShapes Go.ChangeAt Go.RowKit

section
set_option maxRecDepth 100000
set_option maxHeartbeats 2000000
theorem walk_big (s : List UInt8) (w : World) (h : 3000 < s.length) (hs : s.length ≤ maxLen) :
    Calls Try.prog 5 #[strV s] w fun e w' => e = .returned (.bool true) ∧ Below w.heap.size w w' := by
  unfold maxLen at hs
  unfold strV
  have hb' : (3000 : Int) < (s.length : Int) := by omega
  clear h
  go_enter Try.func5, Try.ntmps5
  go_wp2_with fail
  refine (awake_any w).mono ?_
  rintro e w1 ⟨rfl, hb1⟩
  go_wp2
  go_ret
  exact ⟨rfl, hb1⟩

theorem walk_at (s : List UInt8) (w : World) (hs : s.length ≤ 3000) :
    Calls Try.prog 5 #[strV s] w fun e w' => e = .returned (.bool true) ∧ Below w.heap.size w w' := by
  have hs' : ¬ (3000 : Int) < (s.length : Int) := by omega
  have hll := linesOf_length s
  have hcs := linesOf_count s
  have hen := linesOf_ended s
  have hmx : ∀ x ∈ linesOf s, x.length ≤ 3000 := by
    intro x hx
    have h1 := mem_flatten_len hx
    rw [linesOf_join] at h1
    omega
  obtain ⟨LS, hLS⟩ : ∃ LS, linesOf s = LS := ⟨_, rfl⟩
  rw [hLS] at hll hcs hen hmx
  obtain ⟨L, hL⟩ : ∃ L, LS.length = L := ⟨_, rfl⟩
  rw [hL] at hll hcs
  have HLN := hid hL
  have HS := hid hLS
  have HE := hid hen
  have HMX := hid hmx
  have HLL := hid hll
  clear hLS hL hll hen hmx
  unfold strV
  go_enter Try.func5, Try.ntmps5
  go_wp2_with fail
  refine (PSplit_any s w (by omega)).mono ?_
  rw [HS.out]
  rintro e w1 ⟨v, rfl, hv, hbel⟩
  obtain ⟨av, cv, hf⟩ := hv.form
  subst hf
  rw [strCells_length, HLN.out] at hv ⊢
  go_wp2_with fail
  go_loopg [4, 5] s.length (fun g c i wx => ∃ k : Nat, k ≤ s.length ∧ g = s.length - k ∧ i = .int .i64 k ∧ c = .int .i64 ((s.take k).count 10 : Nat) ∧ (s.take k).count 10 ≤ k ∧ w1 = wx)
  case atStart => exact ⟨0, Nat.zero_le _, rfl, rfl, rfl, by simp, rfl⟩
  case round =>
    obtain ⟨k, hk, rfl, rfl, rfl, hck, rfl⟩ := hrel
    obtain ⟨C, hC⟩ : ∃ C, (s.take k).count 10 = C := ⟨_, rfl⟩
    rw [hC] at hck ⊢
    by_cases hlt : k < s.length
    · obtain ⟨b, hb⟩ : ∃ b, s[k]? = some b := ⟨_, List.getElem?_eq_getElem hlt⟩
      have hix := run_str_at (P := Try.prog) 9 Try.underlying9 hb
      have k1 : (k : Int) < (s.length : Int) := by omega
      have kw : IntKind.i64.wrap ((k : Int) + 1) = (k : Int) + 1 := IntWalk.i64_in _ (by omega)
      have cw : IntKind.i64.wrap ((C : Int) + 1) = (C : Int) + 1 := IntWalk.i64_in _ (by omega)
      have hstep := count_take_succ s k b hb
      rw [hC] at hstep
      by_cases h10 : b = 10
      · have hstep2 : (s.take (k + 1)).count 10 = C + 1 := by rw [hstep, if_pos h10]
        subst h10
        have HST := hid hstep2
        clear hstep2 hstep
        rw [show ((UInt8.toNat 10 : Nat) : Int) = 10 from rfl] at hix
        clear hb hC
        go_wp2
        go_roundg (s.length - (k + 1))
        case measure => omega
        case rel => exact ⟨k + 1, by omega, rfl, by go_num, by rw [HST.out]; go_num, by rw [HST.out]; omega, rfl⟩
      · have hbe : (((b.toNat : Nat) : Int) == 10) = false := by
          simp
          intro h
          exact h10 (UInt8.toNat_inj.1 (by rw [show UInt8.toNat 10 = 10 from rfl]; omega))
        have hstep2 : (s.take (k + 1)).count 10 = C := by rw [hstep, if_neg h10]; rfl
        have HST := hid hstep2
        clear hstep hstep2 hb hC h10
        go_wp2
        go_roundg (s.length - (k + 1))
        case measure => omega
        case rel => exact ⟨k + 1, by omega, rfl, by go_num, by rw [HST.out], by rw [HST.out]; omega, rfl⟩
    · obtain rfl : k = s.length := by omega
      rw [List.take_length] at hC
      have hlt' : ¬ (s.length : Int) < (s.length : Int) := by omega
      have hll := HLL.out
      rw [hC] at hll
      by_cases hs0 : s.length = 0
      · have hs0' : ¬ (0 : Int) < (s.length : Int) := by omega
        obtain rfl : s = [] := List.length_eq_zero_iff.1 hs0
        rw [show openEnd [] = false from rfl] at hll
        simp only [Bool.false_eq_true, if_false, Nat.add_zero] at hll
        subst hll
        clear hC hs0 hlt
        go_wp2_with fail
        refine (awake_any w1).mono ?_
        rintro e w2 ⟨rfl, hb2⟩
        have hbw2 := below_step hbel hb2 hbel.size
        have hv2 := Sl.old hv hb2
        have hnn : ((L : Int) != (L : Int)) = false := by simp
        go_wp2_with fail
        go_loopg [6] L (fun g i wx => ∃ k : Nat, k ≤ L ∧ g = L - k ∧ i = .int .i64 k ∧ w2 = wx) 
        case atStart => exact ⟨0, Nat.zero_le _, rfl, rfl, rfl⟩
        case round =>
          obtain ⟨k, hk, rfl, rfl, rfl⟩ := hrel
          by_cases hkl : k < L
          · obtain ⟨a, x, rfl, hc, hx⟩ := hv2.strAt' (i := k) (by rw [HLN.out]; exact hkl)
            obtain ⟨hx0, hx1, hx2⟩ := HE.out k x hx
            rw [HLN.out] at hx2
            have k0 : (0 : Int) ≤ (k : Int) := Int.natCast_nonneg _
            have k1 : (k : Int) < (L : Int) := by omega
            have kw : IntKind.i64.wrap ((k : Int) + 1) = (k : Int) + 1 := IntWalk.i64_in _ (by omega)
            have hxp : 0 < x.length := List.length_pos_iff.2 hx0
            have hxm := HMX.out x (List.mem_of_getElem? hx)
            obtain ⟨M, hM⟩ : ∃ M, x.length = M + 1 := ⟨x.length - 1, by omega⟩
            have hMw : IntKind.i64.wrap ((x.length : Int) - 1) = (M : Int) := (IntWalk.i64_in _ (by omega)).trans (by omega)
            have hLw : IntKind.i64.wrap ((L : Int) - 1) = (L : Int) - 1 := IntWalk.i64_in _ (by omega)
            have hx00 : ((x.length : Int) == 0) = false := by simp; omega
            have HX1 := hid hx1
            have HX2 := hid hx2
            have hMb : M ≤ 3000 := by omega
            have HM := hid hM
            have HX := hid hx
            clear hx hx1 hx2 hM hx0
            go_wp2_with fail
            go_loopg [8] M (fun g j wx => ∃ n : Nat, n ≤ M ∧ g = M - n ∧ j = .int .i64 n ∧ w2 = wx)
            case atStart => exact ⟨0, Nat.zero_le _, rfl, rfl, rfl⟩
            case round =>
              obtain ⟨n, hn, rfl, rfl, rfl⟩ := hrel
              by_cases hnm : n < M
              · obtain ⟨c, hc'⟩ : ∃ c, x[n]? = some c := ⟨_, List.getElem?_eq_getElem (by rw [HM.out]; omega)⟩
                have hix := run_str_at (P := Try.prog) 9 Try.underlying9 hc'
                have hcne : c ≠ 10 := by
                  rintro rfl
                  exact HX1.out n (by rw [HM.out]; omega) hc'
                have hbe : (((c.toNat : Nat) : Int) == 10) = false := by
                  simp
                  intro h
                  exact hcne (UInt8.toNat_inj.1 (by rw [show UInt8.toNat 10 = 10 from rfl]; omega))
                have n1 : (n : Int) < (M : Int) := by omega
                have nw : IntKind.i64.wrap ((n : Int) + 1) = (n : Int) + 1 := IntWalk.i64_in _ (by omega)
                clear hc' hcne
                go_wp2
                go_roundg (M - (n + 1))
                case measure => omega
                case rel => exact ⟨n + 1, by omega, rfl, by go_num, rfl⟩
              · obtain rfl : n = M := by omega
                have n1 : ¬ (n : Int) < (n : Int) := by omega
                by_cases hlast : k + 1 < L
                · have hl' : (k : Int) < (L : Int) - 1 := by omega
                  have hlc := HX2.out hlast
                  rw [HM.out, Nat.add_sub_cancel] at hlc
                  have hix := run_str_at (P := Try.prog) 9 Try.underlying9 hlc
                  rw [show ((UInt8.toNat 10 : Nat) : Int) = 10 from rfl] at hix
                  clear hlc
                  go_wp2
                  go_roundg (L - (k + 1))
                  case measure => omega
                  case rel => exact ⟨k + 1, by omega, rfl, by go_num, rfl⟩
                · have hl' : ¬ (k : Int) < (L : Int) - 1 := by omega
                  go_wp2
                  go_roundg (L - (k + 1))
                  case measure => omega
                  case rel => exact ⟨k + 1, by omega, rfl, by go_num, rfl⟩
          · obtain rfl : k = L := by omega
            have k1 : ¬ (k : Int) < (k : Int) := by omega
            go_wp2
            go_ret
            exact ⟨rfl, hbw2⟩
      · have hs0' : (0 : Int) < (s.length : Int) := by omega
        obtain ⟨b, hb⟩ : ∃ b, s[s.length - 1]? = some b := ⟨_, List.getElem?_eq_getElem (by omega)⟩
        have hoe := openEnd_last s b hb
        obtain ⟨q, hq⟩ : ∃ q, s.length - 1 = q := ⟨_, rfl⟩
        rw [hq] at hb
        have hix := run_str_at (P := Try.prog) 9 Try.underlying9 hb
        have qw : IntKind.i64.wrap ((s.length : Int) - 1) = (q : Int) := (IntWalk.i64_in _ (by omega)).trans (by omega)
        by_cases h10 : b = 10
        · subst h10
          rw [show ((UInt8.toNat 10 : Nat) : Int) = 10 from rfl] at hix
          rw [hoe] at hll
          simp only [bne_self_eq_false, Bool.false_eq_true, if_false, Nat.add_zero] at hll
          subst hll
          clear hC hb hq hoe hs0 hlt
          go_wp2_with fail
          refine (awake_any w1).mono ?_
          rintro e w2 ⟨rfl, hb2⟩
          have hbw2 := below_step hbel hb2 hbel.size
          have hv2 := Sl.old hv hb2
          have hnn : ((L : Int) != (L : Int)) = false := by simp
          go_wp2_with fail
          go_loopg [6] L (fun g i wx => ∃ k : Nat, k ≤ L ∧ g = L - k ∧ i = .int .i64 k ∧ w2 = wx) 
          case atStart => exact ⟨0, Nat.zero_le _, rfl, rfl, rfl⟩
          case round =>
            obtain ⟨k, hk, rfl, rfl, rfl⟩ := hrel
            by_cases hkl : k < L
            · obtain ⟨a, x, rfl, hc, hx⟩ := hv2.strAt' (i := k) (by rw [HLN.out]; exact hkl)
              obtain ⟨hx0, hx1, hx2⟩ := HE.out k x hx
              rw [HLN.out] at hx2
              have k0 : (0 : Int) ≤ (k : Int) := Int.natCast_nonneg _
              have k1 : (k : Int) < (L : Int) := by omega
              have kw : IntKind.i64.wrap ((k : Int) + 1) = (k : Int) + 1 := IntWalk.i64_in _ (by omega)
              have hxp : 0 < x.length := List.length_pos_iff.2 hx0
              have hxm := HMX.out x (List.mem_of_getElem? hx)
              obtain ⟨M, hM⟩ : ∃ M, x.length = M + 1 := ⟨x.length - 1, by omega⟩
              have hMw : IntKind.i64.wrap ((x.length : Int) - 1) = (M : Int) := (IntWalk.i64_in _ (by omega)).trans (by omega)
              have hLw : IntKind.i64.wrap ((L : Int) - 1) = (L : Int) - 1 := IntWalk.i64_in _ (by omega)
              have hx00 : ((x.length : Int) == 0) = false := by simp; omega
              have HX1 := hid hx1
              have HX2 := hid hx2
              have hMb : M ≤ 3000 := by omega
              have HM := hid hM
              have HX := hid hx
              clear hx hx1 hx2 hM hx0
              go_wp2_with fail
              go_loopg [8] M (fun g j wx => ∃ n : Nat, n ≤ M ∧ g = M - n ∧ j = .int .i64 n ∧ w2 = wx)
              case atStart => exact ⟨0, Nat.zero_le _, rfl, rfl, rfl⟩
              case round =>
                obtain ⟨n, hn, rfl, rfl, rfl⟩ := hrel
                by_cases hnm : n < M
                · obtain ⟨c, hc'⟩ : ∃ c, x[n]? = some c := ⟨_, List.getElem?_eq_getElem (by rw [HM.out]; omega)⟩
                  have hix := run_str_at (P := Try.prog) 9 Try.underlying9 hc'
                  have hcne : c ≠ 10 := by
                    rintro rfl
                    exact HX1.out n (by rw [HM.out]; omega) hc'
                  have hbe : (((c.toNat : Nat) : Int) == 10) = false := by
                    simp
                    intro h
                    exact hcne (UInt8.toNat_inj.1 (by rw [show UInt8.toNat 10 = 10 from rfl]; omega))
                  have n1 : (n : Int) < (M : Int) := by omega
                  have nw : IntKind.i64.wrap ((n : Int) + 1) = (n : Int) + 1 := IntWalk.i64_in _ (by omega)
                  clear hc' hcne
                  go_wp2
                  go_roundg (M - (n + 1))
                  case measure => omega
                  case rel => exact ⟨n + 1, by omega, rfl, by go_num, rfl⟩
                · obtain rfl : n = M := by omega
                  have n1 : ¬ (n : Int) < (n : Int) := by omega
                  by_cases hlast : k + 1 < L
                  · have hl' : (k : Int) < (L : Int) - 1 := by omega
                    have hlc := HX2.out hlast
                    rw [HM.out, Nat.add_sub_cancel] at hlc
                    have hix := run_str_at (P := Try.prog) 9 Try.underlying9 hlc
                    rw [show ((UInt8.toNat 10 : Nat) : Int) = 10 from rfl] at hix
                    clear hlc
                    go_wp2
                    go_roundg (L - (k + 1))
                    case measure => omega
                    case rel => exact ⟨k + 1, by omega, rfl, by go_num, rfl⟩
                  · have hl' : ¬ (k : Int) < (L : Int) - 1 := by omega
                    go_wp2
                    go_roundg (L - (k + 1))
                    case measure => omega
                    case rel => exact ⟨k + 1, by omega, rfl, by go_num, rfl⟩
            · obtain rfl : k = L := by omega
              have k1 : ¬ (k : Int) < (k : Int) := by omega
              go_wp2
              go_ret
              exact ⟨rfl, hbw2⟩
        · have hbe : (((b.toNat : Nat) : Int) != 10) = true := by
            simp
            intro h
            exact h10 (UInt8.toNat_inj.1 (by rw [show UInt8.toNat 10 = 10 from rfl]; omega))
          have cw : IntKind.i64.wrap ((C : Int) + 1) = (L : Int) := by
            rw [hoe, show (b != 10) = true by simpa using h10, if_pos rfl] at hll
            exact (IntWalk.i64_in _ (by omega)).trans (by omega)
          clear hC hb hq hoe hs0 hlt hll
          go_wp2_with fail
          refine (awake_any w1).mono ?_
          rintro e w2 ⟨rfl, hb2⟩
          have hbw2 := below_step hbel hb2 hbel.size
          have hv2 := Sl.old hv hb2
          have hnn : ((L : Int) != (L : Int)) = false := by simp
          go_wp2_with fail
          go_loopg [6] L (fun g i wx => ∃ k : Nat, k ≤ L ∧ g = L - k ∧ i = .int .i64 k ∧ w2 = wx) 
          case atStart => exact ⟨0, Nat.zero_le _, rfl, rfl, rfl⟩
          case round =>
            obtain ⟨k, hk, rfl, rfl, rfl⟩ := hrel
            by_cases hkl : k < L
            · obtain ⟨a, x, rfl, hc, hx⟩ := hv2.strAt' (i := k) (by rw [HLN.out]; exact hkl)
              obtain ⟨hx0, hx1, hx2⟩ := HE.out k x hx
              rw [HLN.out] at hx2
              have k0 : (0 : Int) ≤ (k : Int) := Int.natCast_nonneg _
              have k1 : (k : Int) < (L : Int) := by omega
              have kw : IntKind.i64.wrap ((k : Int) + 1) = (k : Int) + 1 := IntWalk.i64_in _ (by omega)
              have hxp : 0 < x.length := List.length_pos_iff.2 hx0
              have hxm := HMX.out x (List.mem_of_getElem? hx)
              obtain ⟨M, hM⟩ : ∃ M, x.length = M + 1 := ⟨x.length - 1, by omega⟩
              have hMw : IntKind.i64.wrap ((x.length : Int) - 1) = (M : Int) := (IntWalk.i64_in _ (by omega)).trans (by omega)
              have hLw : IntKind.i64.wrap ((L : Int) - 1) = (L : Int) - 1 := IntWalk.i64_in _ (by omega)
              have hx00 : ((x.length : Int) == 0) = false := by simp; omega
              have HX1 := hid hx1
              have HX2 := hid hx2
              have hMb : M ≤ 3000 := by omega
              have HM := hid hM
              have HX := hid hx
              clear hx hx1 hx2 hM hx0
              go_wp2_with fail
              go_loopg [8] M (fun g j wx => ∃ n : Nat, n ≤ M ∧ g = M - n ∧ j = .int .i64 n ∧ w2 = wx)
              case atStart => exact ⟨0, Nat.zero_le _, rfl, rfl, rfl⟩
              case round =>
                obtain ⟨n, hn, rfl, rfl, rfl⟩ := hrel
                by_cases hnm : n < M
                · obtain ⟨c, hc'⟩ : ∃ c, x[n]? = some c := ⟨_, List.getElem?_eq_getElem (by rw [HM.out]; omega)⟩
                  have hix := run_str_at (P := Try.prog) 9 Try.underlying9 hc'
                  have hcne : c ≠ 10 := by
                    rintro rfl
                    exact HX1.out n (by rw [HM.out]; omega) hc'
                  have hbe : (((c.toNat : Nat) : Int) == 10) = false := by
                    simp
                    intro h
                    exact hcne (UInt8.toNat_inj.1 (by rw [show UInt8.toNat 10 = 10 from rfl]; omega))
                  have n1 : (n : Int) < (M : Int) := by omega
                  have nw : IntKind.i64.wrap ((n : Int) + 1) = (n : Int) + 1 := IntWalk.i64_in _ (by omega)
                  clear hc' hcne
                  go_wp2
                  go_roundg (M - (n + 1))
                  case measure => omega
                  case rel => exact ⟨n + 1, by omega, rfl, by go_num, rfl⟩
                · obtain rfl : n = M := by omega
                  have n1 : ¬ (n : Int) < (n : Int) := by omega
                  by_cases hlast : k + 1 < L
                  · have hl' : (k : Int) < (L : Int) - 1 := by omega
                    have hlc := HX2.out hlast
                    rw [HM.out, Nat.add_sub_cancel] at hlc
                    have hix := run_str_at (P := Try.prog) 9 Try.underlying9 hlc
                    rw [show ((UInt8.toNat 10 : Nat) : Int) = 10 from rfl] at hix
                    clear hlc
                    go_wp2
                    go_roundg (L - (k + 1))
                    case measure => omega
                    case rel => exact ⟨k + 1, by omega, rfl, by go_num, rfl⟩
                  · have hl' : ¬ (k : Int) < (L : Int) - 1 := by omega
                    go_wp2
                    go_roundg (L - (k + 1))
                    case measure => omega
                    case rel => exact ⟨k + 1, by omega, rfl, by go_num, rfl⟩
            · obtain rfl : k = L := by omega
              have k1 : ¬ (k : Int) < (k : Int) := by omega
              go_wp2
              go_ret
              exact ⟨rfl, hbw2⟩

theorem walk (s : List UInt8) (w : World) (hs : s.length ≤ maxLen) :
    Calls Try.prog 5 #[strV s] w fun e w' => e = .returned (.bool true) ∧ Below w.heap.size w w' := by
  by_cases h : s.length ≤ 3000
  · exact walk_at s w h
  · exact walk_big s w (by omega) hs
end

theorem own : ownKnob Try.prog.godebug = none := by kernel_rfl
theorem laidOut : laidOutB Try.prog = true := by kernel_rfl

theorem contract (H : Type) (enc : TypeId × Value → H) (W : World) (base : Nat) (args : Array Value) (ds gs : List (DataW H)) (before : List MemPlace)
    (hval : ∀ (j : Nat) t v, Try.f5.params[j]? = some t → args[j]? = some v → Value.okWide Try.prog W .any base t v)
    (hW : DataW.Whole enc Try.prog Try.f5.params.toList Rows.linesEndsSpec.vars false W args.toList ds gs before) :
    Calls Try.prog 5 args W fun e W' => ∃ v, e = .returned v ∧ Rows.linesEndsSpec.post enc Try.prog Try.f5 false true false false W args v W' := by
  have hW' := hW
  obtain ⟨p, q, hA0, hV, rfl, hfz, hnd⟩ := hW
  have hA : DataW.TrodAll enc Try.prog W 0 (fun _ => true) true Try.f5.params.toList args.toList ds p := hA0
  rw [Try.params5] at hA hval
  obtain ⟨v0, vs0, d0, ds0, p0, q0, hargs, rfl, rfl, h0, r0⟩ := trodAll_cons hA
  obtain ⟨rfl, rfl, rfl⟩ := trodAll_nil r0
  obtain rfl : args = #[v0] := by cases args; simp_all
  obtain ⟨rfl, rfl⟩ := trodVars_none hV
  have k0 := h0
  have lt0 : ∀ x ∈ p0, x.block < W.heap.size := by obtain ⟨m, hm⟩ := k0; exact DataW.trod_lt m _ _ _ hm
  obtain ⟨a0, rfl, _, _, w0⟩ := open_str Try.underlying9 (hval 0 9 v0 rfl rfl) h0
  clear hA0
  refine (walk a0 W w0).mono fun e W' ⟨he, bel⟩ => ?_
  subst he
  exact ⟨_, rfl, _, _, _, [], _, [], hW', trodAll_mk1 (shut_bool Try.underlying4 _), (trodAll_cons_mk (Below.trod laidOut (by kernel_rfl) (of_decide_eq_true (by kernel_rfl)) k0 bel lt0) trodAll_mk0), rfl, bel.frame _, fun h => by cases h⟩

set_option maxRecDepth 100000 in
theorem lifted (os : Os) (started : os.Started) (H : Type) (enc : TypeId × Value → H) :
    ReturnsInHanded {} Try.checked os 5 .any (Rows.linesEndsSpec.pre6 enc Try.prog Try.f5 Rows.linesEndsRow.domain false) (Rows.linesEndsSpec.post enc Try.prog Try.f5 false true false false) := by
  refine returnsInHanded_of_change (C := Try.checked) own started (by kernel_rfl) Try.func5
    (ChangeSpec.witness6 (enc := enc) (C := Try.checked) false ⟨#[], #[.string ByteArray.empty], []⟩ 8 (by kernel_rfl) (by kernel_rfl) (by kernel_rfl) (by kernel_rfl)) ?_
  intro W base args ds gs before hval hW _ _
  exact contract H enc W base args ds gs before hval hW

theorem over : Rows.linesEndsRow.holds Try.pinned (OpenSpec.ofChange Rows.linesEndsSpec) :=
  OpenClaim.holds_of_wide 5 Try.f5 rfl rfl rfl rfl rfl rfl rfl ⟨rfl, rfl, rfl, rfl, rfl⟩ rfl rfl rfl rfl rfl (by kernel_rfl) Try.func5 (by kernel_rfl)
    (of_decide_eq_true (by kernel_rfl)) (by unfold Func.isWrapper; first | (rw [if_pos (by decide +kernel)]; kernel_rfl) | (rw [if_neg (by decide +kernel)]; exact ⟨rfl, rfl⟩))
    (fun os started H enc _ => lifted os started H enc)

/-- The statement. -/
theorem proved : Rows.LinesEndsSaid :=
  over
#print axioms proved
end Go.Proofs.Ytmmnmcdmiacckaa.linesEnds
