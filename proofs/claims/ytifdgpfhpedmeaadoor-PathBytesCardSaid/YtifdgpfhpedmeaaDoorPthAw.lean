/-
  awake (path).
-/
import Derived.Test.YtifdgpfhpedmeaaDoorPpthD
import Derived.Test.YtifdgpfhpedmeaaDoorLit
namespace Go.Proofs.YtifdgpfhpedmeaaDoor
open Go.RowKit
section
set_option maxRecDepth 100000
set_option maxHeartbeats 2000000
theorem awake_any (w : World) : Calls Tryd.prog 7 #[] w fun e w' => e = .returned (.bool true) ∧ Below w.heap.size w w' := by
  have h1 : rightS [97, 47, 98] = true := by decide
  have h2 : rightS [97, 47, 47, 98] = false := by decide
  have h3 : withinS [97, 47, 98] [97] = true := by decide
  have h4 : partsS [97, 47, 98] = [[97], [98]] := by decide
  have H1 := hid (fun wx => DRightP_any [97, 47, 98] wx (by simp))
  have H2 := hid (fun wx => DRightP_any [97, 47, 47, 98] wx (by simp))
  have H3 := hid (fun wx => DWithin_any [97, 47, 98] [97] wx (by simp) (by simp))
  have H4 := hid (fun wx => DParts_any [97, 47, 98] wx (by simp))
  rw [h1] at H1
  rw [h2] at H2
  rw [h3] at H3
  rw [h4] at H4
  unfold strV at H1 H2 H3 H4
  clear h1 h2 h3 h4
  go_enter Tryd.func7, Tryd.ntmps7
  go_wp2_with (first
    | (go_at_call 11; with_reducible refine (H1.out _).mono ?_; rintro e w1 ⟨rfl, hb1⟩; have HB1 := hid hb1; clear hb1)
    | (go_at_call 11; with_reducible refine (H2.out _).mono ?_; rintro e w2 ⟨rfl, hb2⟩; have HB2 := hid (below_step HB1.out hb2 HB1.out.size); clear hb2)
    | (go_at_call 13; with_reducible refine (H3.out _).mono ?_; rintro e w3 ⟨rfl, hb3⟩; have HB3 := hid (below_step HB2.out hb3 HB2.out.size); clear hb3)
    | (go_at_call 9; with_reducible refine (H4.out _).mono ?_; rintro e w4 ⟨u, rfl, hs4, hb4⟩
       obtain ⟨ua, uc, rfl⟩ := hs4.form
       have HS4 := hid hs4; have HB4 := hid (below_step HB3.out hb4 HB3.out.size); clear hs4 hb4)
    | (go_at_call 8; refine (SPlain_any _ _ [[97], [98]] [[97], [98]] _ (HS4.out.alloc (.cells #[.string ⟨#[97]⟩, .string ⟨#[98]⟩] 9)) (litS [[97], [98]] (heap_alloc_new w4 (.cells #[.string ⟨#[97]⟩, .string ⟨#[98]⟩] 9))) (by simp; unfold maxLen; omega)).mono ?_; rintro e _ ⟨rfl, q5, rfl⟩))
  go_ret
  exact ⟨rfl, below_step (HB4.out.alloc HB4.out.size _) (below_drewN _ _) (HB4.out.alloc HB4.out.size _).size⟩
end
end Go.Proofs.YtifdgpfhpedmeaaDoor
