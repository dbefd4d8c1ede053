/-
  tree.Find (landed).
-/
import Derived.Test.YtnpgfbgnbonhfaaRtrA
import Derived.Test.YtnpgfbgnbonhfaaTxt
import Derived.Deep.LoopGhost
namespace Go.Proofs.Ytnpgfbgnbonhfaa
open Go.RowKit
open BigFrame

section
set_option maxRecDepth 100000
set_option maxHeartbeats 4000000
theorem DFind_any (v : Value) (l : List FileS) (p : Txt) (w : World) (hv : SlF w v l) (hl : l.length ≤ 4611686018427387904) :
    Calls Try.prog 39 #[v, strV p] w fun e w' => e = .returned (.tuple #[fileV ((findS l p).getD fileZ), .bool (findS l p).isSome]) ∧ Below w.heap.size w w' := by
  obtain ⟨ao, cap, rfl⟩ := hv.form
  have HV := hid (hv.alloc (.cells #[.string ⟨#[]⟩, .bool false, .string ⟨#[]⟩] 31))
  have HL := hid hl
  have HG := hid (heap_alloc_new w (.cells #[.string ⟨#[]⟩, .bool false, .string ⟨#[]⟩] 31))
  have HB := hid ((Below.refl _ w).alloc (Nat.le_refl w.heap.size) (.cells #[.string ⟨#[]⟩, .bool false, .string ⟨#[]⟩] 31))
  clear hv hl
  unfold strV fileV
  go_enter Try.func39, Try.ntmps39
  go_wp2_with fail
  generalize w.alloc (.cells #[.string ⟨#[]⟩, .bool false, .string ⟨#[]⟩] 31) = W at HV HG HB ⊢
  obtain ⟨gm, hgm⟩ : ∃ g, w.heap.size = g := ⟨_, rfl⟩
  rw [hgm] at HG HB ⊢
  have HGM := hid hgm
  clear hgm
  go_loopg [10] l.length (fun g i wr => ∃ k : Nat, k ≤ l.length ∧ l.length - k = g ∧ i = .int .i64 k ∧ Hid (findS l p = findS (l.drop k) p) ∧ Hid (Below W.heap.size W wr))
  case atStart => exact ⟨0, Nat.zero_le _, rfl, rfl, hid rfl, hid (Below.refl _ _)⟩
  case round =>
    obtain ⟨k, hk, rfl, rfl, HF, HW⟩ := hrel
    have k0 : (0 : Int) ≤ (k : Int) := Int.natCast_nonneg _
    by_cases hlt : k < l.length
    · have k1 : (k : Int) < (l.length : Int) := by omega
      have kw : IntKind.i64.wrap ((k : Int) + 1) = (k : Int) + 1 := IntWalk.i64_in _ (by have := HL.out; omega)
      obtain ⟨b, o, p2, x2, t2, rfl, he, c1, c2, c3⟩ := SlF.at (HV.out.old HW.out) hlt
      have hd := drop_one he
      have HWA := hid (HW.out.alloc HW.out.size (.cells #[.string ⟨p2.toArray⟩, .bool x2, .string ⟨t2.toArray⟩] 31))
      have HGA := hid ((HWA.out.block gm (Array.getElem?_eq_some_iff.1 HG.out).1).trans HG.out)
      clear he
      by_cases hp : p2 = p
      · subst hp
        have HR := hid (show findS l p2 = some (p2, x2, t2) by rw [HF.out, hd]; simp [findS])
        clear hd
        go_wp2_with (refine file_store rfl 31 _ _ rfl gm #[.string ⟨p2.toArray⟩, .bool x2, .string ⟨t2.toArray⟩] rfl rfl _ _ HGA.out 3 Try.sizeFile rfl rfl (by simp [Value.oneCell']) ?_; intro w9 hg9 hk9)
        refine bodyPost_ret (file_results rfl _ _ gm _ _ _ _ _ rfl rfl hg9 Try.underlying31 rfl Try.sizeFile) rfl ?_
        refine ⟨by rw [HR.out]; rfl, ?_⟩
        rw [HGM.out]
        have hgs : gm ≤ W.heap.size := by rw [← HGM.out]; exact HB.out.size
        have hb1 := below_step HB.out HWA.out hgs
        exact hb1.trans (hk9.below (Nat.le_trans hgs HWA.out.size) (fun j hj e => by omega))
      · have hpb : (p2 == p) = false := by simpa using hp
        have HF2 := hid (show findS l p = findS (l.drop (k + 1)) p by rw [HF.out, hd]; simp [findS, hpb])
        clear hd hp
        go_wp2_with fail
        go_roundg (l.length - (k + 1))
        case measure => omega
        case rel => exact ⟨k + 1, by omega, rfl, by go_num, HF2, HWA⟩
    · obtain rfl : k = l.length := by omega
      have hneg : ¬ (l.length : Int) < (l.length : Int) := by omega
      have HR := hid (show findS l p = none by rw [HF.out, List.drop_length]; rfl)
      have HGA := hid ((HW.out.block gm (Array.getElem?_eq_some_iff.1 HG.out).1).trans HG.out)
      go_wp2_with (refine file_store rfl 31 _ _ rfl gm #[.string ⟨#[]⟩, .bool false, .string ⟨#[]⟩] rfl rfl _ _ HGA.out 3 Try.sizeFile rfl rfl (by simp [Value.oneCell']) ?_; intro w9 hg9 hk9)
      refine bodyPost_ret (file_results rfl _ _ gm _ _ _ _ _ rfl rfl hg9 Try.underlying31 rfl Try.sizeFile) rfl ?_
      refine ⟨by rw [HR.out]; rfl, ?_⟩
      rw [HGM.out]
      have hgs : gm ≤ W.heap.size := by rw [← HGM.out]; exact HB.out.size
      have hb1 := below_step HB.out HW.out hgs
      exact hb1.trans (hk9.below (Nat.le_trans hgs HW.out.size) (fun j hj e => by omega))
end
end Go.Proofs.Ytnpgfbgnbonhfaa
