/-
  A number in digits (rickhelp.Digits), below a thousand.
-/
import Derived.Test.YtnpgfbgnbonhfaaTrQ
import Derived.Test.YtnpgfbgnbonhfaaHelpS
import Derived.Test.YtnpgfbgnbonhfaaConv
import Derived.Test.YtnpgfbgnbonhfaaStr
import Derived.Deep.RegionLaw
namespace Go.Proofs.Ytnpgfbgnbonhfaa
open Go.RowKit

section
set_option maxRecDepth 100000
set_option maxHeartbeats 4000000
/-- a byte in a block of its own, as a string -/
theorem conv_one (w : World) (q : Nat) (c : UInt8) (hb : w.heap[q]? = some (.cells #[.int .u8 (c.toNat : Int)] 5 (0, 0))) : (convert 59 9 (.slice (some ⟨q, 0, none⟩) 1 1)).run Try.prog w = .ok (.string ⟨#[c]⟩) w := by
  refine run_convert_bytes_back w 59 9 5 ⟨q, 0, none⟩ 1 [c] Try.underlying59 Try.underlying5 Try.underlying9 fun j hj => ?_
  have : j = 0 := by simp at hj; exact hj
  subst this
  exact blk_cell (i := 0) hb rfl
theorem conv_num (w : World) (q : Nat) (m : Nat) (hm : m < 256) (hb : w.heap[q]? = some (.cells #[.int .u8 (m : Int)] 5 (0, 0))) : (convert 59 9 (.slice (some ⟨q, 0, none⟩) 1 1)).run Try.prog w = .ok (.string ⟨[UInt8.ofNat m].toArray⟩) w := by
  refine conv_one w q (UInt8.ofNat m) ?_
  rw [UInt8.toNat_ofNat_of_lt' (show m < UInt8.size from hm)]
  exact hb
theorem Dig1_any (n : Nat) (w : World) (hn : n < 10) :
    Calls Try.prog 17 #[.int .i64 n] w fun e w' => e = .returned (strV [UInt8.ofNat (48 + n)]) ∧ Below w.heap.size w w' := by
  have n1 : (n : Int) < 10 := by omega
  have n0 : (0 : Int) ≤ (n : Int) := Int.natCast_nonneg _
  have hcv := conv_num (w.alloc (.cells #[.int .u8 ((48 + n : Nat) : Int)] 5)) w.heap.size (48 + n) (by omega) (heap_alloc_new w _)
  rw [show ((48 + n : Nat) : Int) = 48 + (n : Int) by omega] at hcv
  obtain ⟨c, hc⟩ : ∃ c, UInt8.ofNat (48 + n) = c := ⟨_, rfl⟩
  rw [hc] at hcv ⊢
  clear hc
  have HB := hid ((Below.refl _ w).alloc (Nat.le_refl w.heap.size) (.cells #[.int .u8 (48 + (n : Int))] 5))
  go_enter Try.func17, Try.ntmps17
  go_wp2_with fail
  go_ret
  exact ⟨rfl, HB.out⟩
/-- a digit more -/
theorem Dig_step (n : Nat) (x : Txt) (w : World) (hn : 10 ≤ n) (hn2 : n < 1000) (hx : x.length ≤ 10) (HD : Hid (∀ wy : World, Calls Try.prog 17 #[.int .i64 ((n / 10 : Nat) : Int)] wy fun e w' => e = .returned (strV x) ∧ Below wy.heap.size wy w')) :
    Calls Try.prog 17 #[.int .i64 n] w fun e w' => e = .returned (strV (x ++ [UInt8.ofNat (48 + n % 10)])) ∧ Below w.heap.size w w' := by
  have n1 : ¬ (n : Int) < 10 := by omega
  have n0 : (0 : Int) ≤ (n : Int) := Int.natCast_nonneg _
  obtain ⟨d, hd⟩ : ∃ d, n / 10 = d := ⟨_, rfl⟩
  obtain ⟨r, hr⟩ : ∃ r, n % 10 = r := ⟨_, rfl⟩
  have e1 : (n : Int) / 10 = (d : Int) := by omega
  have e2 : (n : Int) % 10 = (r : Int) := by omega
  have e3 : Int.tdiv (n : Int) 10 = (d : Int) := by rw [Int.tdiv_eq_ediv_of_nonneg n0]; exact e1
  have e4 : Int.tmod (n : Int) 10 = (r : Int) := by rw [Int.tmod_eq_emod_of_nonneg n0]; exact e2
  have r10 : r < 10 := by omega
  have r1 : (r : Int) < 10 := by omega
  have r0 : (0 : Int) ≤ (r : Int) := Int.natCast_nonneg _
  have d1 : (d : Int) < 100 := by omega
  have d0 : (0 : Int) ≤ (d : Int) := Int.natCast_nonneg _
  have dw : IntKind.i64.wrap (d : Int) = (d : Int) := IntWalk.i64_in _ (by omega)
  have rw1 : IntKind.i64.wrap (48 + (r : Int)) = 48 + (r : Int) := IntWalk.i64_in _ (by omega)
  have rw2 : IntKind.u8.wrap (48 + (r : Int)) = 48 + (r : Int) := by simp [IntKind.wrap, IntKind.bits, IntKind.signed]; omega
  rw [hd] at HD
  rw [hr]
  have HCV := hid (fun (wx : World) (q : Nat) (h : wx.heap[q]? = some (.cells #[.int .u8 ((48 + r : Nat) : Int)] 5 (0, 0))) => conv_num wx q (48 + r) (by omega) h)
  rw [show ((48 + r : Nat) : Int) = 48 + (r : Int) by omega] at HCV
  obtain ⟨c, hc⟩ : ∃ c, UInt8.ofNat (48 + r) = c := ⟨_, rfl⟩
  rw [hc] at HCV ⊢
  have hadd := fun wx => run_str_add (P := Try.prog) x [c] (by simp; omega) wx
  have hcv0 := HCV.out (w.alloc (.cells #[.int .u8 (48 + (r : Int))] 5)).drew w.heap.size (heap_alloc_new w _)
  have HNEW := hid (show (w.alloc (.cells #[.int .u8 (48 + (r : Int))] 5)).drew.heap[w.heap.size]? = some (.cells #[.int .u8 (48 + (r : Int))] 5 (0, 0)) from heap_alloc_new w _)
  unfold strV at HD ⊢
  clear hc hd hr r10 hx hn hn2
  go_enter Try.func17, Try.ntmps17
  go_wp2_with fail
  go_region_law (go_simp; go_at_call 17; with_reducible refine (HD.out _).mono ?_; rintro e w1 ⟨rfl, hb1⟩; have HB1 := hid hb1; have hcv1 := HCV.out (w1.alloc (.cells #[.int .u8 (48 + (r : Int))] 5)) w1.heap.size (heap_alloc_new w1 _); (try have hcv2 := HCV.out w1 w.heap.size ((hb1.block w.heap.size (by simp)).trans HNEW.out)); clear hb1; go_simp)
  all_goals (
    go_wp2_with fail
    go_ret
    refine ⟨by first | rfl | simp, ?_⟩
    first
      | exact (below_step (Below.refl _ w).drew HB1.out (Nat.le_refl _)).alloc HB1.out.size _
      | exact below_step ((Below.refl _ w).alloc (Nat.le_refl _) _).drew HB1.out (by simp))
theorem Digits_any (n : Nat) (w : World) (hn : n < 1000) :
    Calls Try.prog 17 #[.int .i64 n] w fun e w' => e = .returned (strV (digS n)) ∧ Below w.heap.size w w' := by
  unfold digS
  by_cases h1 : n < 10
  · rw [if_pos h1]
    exact Dig1_any n w h1
  · rw [if_neg h1]
    by_cases h2 : n < 100
    · rw [if_pos h2]
      exact Dig_step n [UInt8.ofNat (48 + n / 10)] w (by omega) hn (by simp) (hid fun wy => Dig1_any (n / 10) wy (by omega))
    · rw [if_neg h2]
      have := Dig_step n ([UInt8.ofNat (48 + n / 10 / 10)] ++ [UInt8.ofNat (48 + n / 10 % 10)]) w (by omega) hn (by simp) (hid fun wy => Dig_step (n / 10) [UInt8.ofNat (48 + n / 10 / 10)] wy (by omega) (by omega) (by simp) (hid fun wz => Dig1_any (n / 10 / 10) wz (by omega)))
      rw [show n / 10 / 10 = n / 100 by omega] at this
      exact this
end
end Go.Proofs.Ytnpgfbgnbonhfaa
