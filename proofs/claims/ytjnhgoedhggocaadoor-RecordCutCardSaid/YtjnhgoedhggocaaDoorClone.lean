/-
  slices.Clone at bytes.
-/
import Derived.Test.YtjnhgoedhggocaaDoorBase
import Derived.Deep.RegionHeld3
import Derived.Deep.AppendLies
import Derived.Deep.DrawnRows
namespace Go.Proofs.YtjnhgoedhggocaaDoor
open Go.RowKit

set_option maxHeartbeats 400000 in
/-- slices.Clone, of a slice that can be read. -/
theorem Clone_any (v : Value) (bs : List UInt8) (w : World) (hv : Sl w v (Lib.byteCells bs)) (hlen : bs.length ≤ 70368744177664) :
    Calls Tryd.prog 19 #[v] w fun e w' => ∃ v', e = .returned v' ∧ w'.ownsRow w.heap.size 5 1 v' bs.length (Lib.byteCells bs) ∧ Below w.heap.size w w' := by
  obtain ⟨ao, cap, rfl, hn, hcap, hc⟩ := hv
  obtain ⟨i0, hi0, hz0, hz1, hz2⟩ := info_parts Tryd.info5
  have hbl : (Lib.byteCells bs).length = bs.length := Lib.byteCells_length bs
  cases ao with
  | none =>
    have hb : Lib.byteCells bs = [] := hn rfl
    have hb' : bs = [] := by simpa [Lib.byteCells] using hb
    subst hb'
    show Calls Tryd.prog 19 #[.slice none 0 cap] w _
    have he := fun wx => Lib.run_eql_slice_nil (P := Tryd.prog) wx 22 5 none 0 cap 0 0 Tryd.underlying22
    go_enter Tryd.func19, Tryd.ntmps19
    go_wp2
    go_ret
    exact ⟨_, rfl, World.ownsRow_nil _ _ _ _, Below.refl _ _⟩
  | some a =>
    have hv : Sl w (.slice (some a) (Lib.byteCells bs).length cap) (Lib.byteCells bs) := ⟨some a, cap, rfl, hn, hcap, hc⟩
    have he := fun wx => Lib.run_eql_slice_nil (P := Tryd.prog) wx 22 5 (some a) (Lib.byteCells bs).length cap 0 0 Tryd.underlying22
    have hbs := run_buildSlice_none (P := Tryd.prog) w 22 5 Tryd.underlying22 hi0
    have H := hid hbl
    have h63 : 0 + (Lib.byteCells bs).length ≤ maxLen := by unfold maxLen; omega
    have h47 : (0 + (Lib.byteCells bs).length) * 1 ≤ 140737488355328 := by omega
    clear hbl hlen hc hn hcap
    go_enter Tryd.func19, Tryd.ntmps19
    go_wp2_with (refine wpList_append_any _ rfl _ _ _ _ rfl w.heap.size 5 i0 _ 1 1 Tryd.underlying22 hi0 hz0 hz1 hz2 rfl (by omega) (.slice (some ⟨w.heap.size, 0, none⟩) 0 0) 0 [] rfl (World.ownsRow_made w #[] 0 (Nat.le_refl _) (by unfold maxLen; omega) rfl) _ _ _ rfl ((hv.alloc _).src Tryd.underlying22 (byte_one bs)) h63 h47 (by simp) ?_; intro v1 w1 hown hgrow hat; have hbel := ((Below.refl w.heap.size w).alloc (Nat.le_refl _) (.cells #[] 5)).grown hgrow (by simp) (by simp [Value.ownBlock]))
    go_ret
    rw [Nat.zero_add, List.nil_append, H.out] at hown
    exact ⟨v1, rfl, hown, hbel⟩
end Go.Proofs.YtjnhgoedhggocaaDoor
