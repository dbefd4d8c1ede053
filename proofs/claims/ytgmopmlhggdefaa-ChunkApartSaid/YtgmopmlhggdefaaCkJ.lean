/-
  ChunkApart: what its own function makes: one list, a line, the other list.
-/
import Derived.Test.YtgmopmlhggdefaaEdB
import Derived.Test.YtgmopmlhggdefaaLit
import Derived.Deep.RegionLaw
namespace Go.Proofs.Ytgmopmlhggdefaa
open Go.RowKit

section
set_option maxRecDepth 100000
set_option maxHeartbeats 4000000
theorem CJoin_any (vp vq : Value) (p q : List (List UInt8)) (s : List UInt8) (g : Nat) (w : World) (hp : Sl w vp (strCells p)) (hq : Sl w vq (strCells q)) (hs : w.cell? ⟨g, 0, none⟩ = some (.string ⟨s.toArray⟩)) (lp : p.length ≤ 1000000) (lq : q.length ≤ 1000000) :
    Calls Try.prog 23 #[vp, vq, .pointer (some ⟨g, 0, none⟩)] w fun e w' => ∃ u, e = .returned u ∧ Sl w' u (strCells (p ++ s :: q)) ∧ Below w.heap.size w w' := by
  obtain ⟨po, pc, rfl⟩ := hp.form
  obtain ⟨qo, qc, rfl⟩ := hq.form
  rw [strCells_length] at hp hq ⊢
  rw [strCells_length]
  have HP := hid hp
  have HQ := hid hq
  have HS := hid hs
  have HL := hid (And.intro lp lq)
  have hg : g < w.heap.size := World.block_lt_of_cell? w _ hs
  have hd : Below w.heap.size w w.drew := ⟨rfl, rfl, rfl, Nat.le_refl _, fun _ _ => rfl⟩
  have HE := hid (show (([] ++ p) ++ [s]) ++ q = p ++ s :: q by simp)
  have kc : ∀ {w1 : World}, Below w.heap.size w w1 → w1.cell? ⟨g, 0, none⟩ = some (.string ⟨s.toArray⟩) := fun h => (World.cell?_of_block (w := w) (h.block _ hg)).trans HS.out
  go_enter Try.func23, Try.ntmps23
  go_wp2_with fail
  go_region_law
    (first
      | (refine step_append_ss (by rfl) (.const (.slice none 0 0)) (.tmp 6) (by rfl) w.heap.size _ [] p (by rfl) (World.ownsRow_nil _ _ _ _) _ (by rfl) (Sl.old HP.out hd) (by have := HL.out; simp; omega) (Nat.le_refl _) ?_; intro u1 w1 p1 q1; have q1 := hd.trans q1; have hs := kc q1; have HO1 := hid p1; have HB1 := hid q1; have HZ1 := hid q1.size; clear p1 q1)
      | (refine step_append_ss (by rfl) (.const (.slice none 0 0)) (.tmp 6) (by rfl) (w.heap.size + 1) _ [] p (by rfl) (World.ownsRow_nil _ _ _ _) _ (by rfl) (Sl.old HP.out (hd.alloc (Nat.le_refl _) _)) (by have := HL.out; simp; omega) (by simp) ?_; intro u1 w1 p1 q1; have HS9 := hid (show Sl w1 (.slice (some ⟨w.heap.size, 0, none⟩) 1 1) (strCells [s]) from litS [s] ((q1.block w.heap.size (by omega)).trans (heap_alloc_new w.drew _))); have q1 := (hd.alloc (Nat.le_refl _) _).trans (q1.mono (Nat.le_succ _)); have HO1 := hid (owns_less p1 (Nat.le_succ w.heap.size)); have HB1 := hid q1; have HZ1 := hid q1.size; clear p1 q1)
      | (refine step_append_ss (by rfl) (.tmp 7) (.tmp 9) (by rfl) w.heap.size _ ([] ++ p) [s] (by rfl) (HO1.out.alloc _) _ (by rfl) (litS [s] (heap_alloc_new w1 _)) (by have := HL.out; simp; omega) (by have := HZ1.out; simp; omega) ?_; intro u2 w2 p2 q2; have q2 := (HB1.out.alloc HZ1.out _).trans q2; have HO2 := hid p2; have HB2 := hid q2; have HZ2 := hid q2.size; clear p2 q2)
      | (refine step_append_ss (by rfl) (.tmp 7) (.tmp 9) (by rfl) w.heap.size _ ([] ++ p) [s] (by rfl) HO1.out _ (by rfl) HS9.out (by have := HL.out; simp; omega) HZ1.out ?_; intro u2 w2 p2 q2; have q2 := HB1.out.trans q2; have HO2 := hid p2; have HB2 := hid q2; have HZ2 := hid q2.size; clear p2 q2)
      | (refine step_append_ss (by rfl) (.tmp 10) (.tmp 11) (by rfl) w.heap.size _ (([] ++ p) ++ [s]) q (by rfl) HO2.out _ (by rfl) (Sl.old HQ.out HB2.out) (by have := HL.out; simp; omega) HZ2.out ?_; intro u3 w3 p3 q3; have q3 := HB2.out.trans q3; have HO3 := hid p3; have HB3 := hid q3; clear p3 q3))
  all_goals
    go_wp2_with fail
    go_ret
    refine ⟨_, rfl, ?_, HB3.out⟩
    rw [← HE.out]
    exact Sl.ofOwns HO3.out
end
end Go.Proofs.Ytgmopmlhggdefaa
