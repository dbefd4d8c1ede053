/-
  Package tree (landed): Only, by a contract.
-/
import Derived.Test.YtndmblelkeepjaaGreatDoorPtrE
import Derived.Test.YtndmblelkeepjaaGreatDoorChg
import Derived.Test.YtndmblelkeepjaaGreatDoorRtrE
namespace Go.Proofs.YtndmblelkeepjaaGreatDoor
open Go.RowKit
open BigFrame

theorem slT_of {w : World} {v : Value} {l : List Txt} (h : Sl w v (strCells l)) : SlT w v l := by
  obtain ⟨ao, cap, rfl, hn, hcap, hc⟩ := h
  rw [strCells_length] at hcap ⊢
  refine ⟨ao, cap, rfl, fun h => ?_, hcap, fun a ha i x hx j u hu => ?_⟩
  · have := congrArg List.length (hn h)
    rw [strCells_length] at this
    exact List.eq_nil_of_length_eq_zero this
  · have hj : j = 0 := by
      have := (List.getElem?_eq_some_iff.1 hu).1
      simp [encT] at this
      exact this
    subst hj
    have hux : u = strV x := by simpa [encT] using hu.symm
    subst hux
    have := hc a ha i (strV x) (by simp [strCells, hx])
    simpa [encT] using this
section
set_option maxRecDepth 100000
set_option maxHeartbeats 4000000
theorem DOnly_any (v v2 : Value) (c : List ChangeS) (ps : List Txt) (w : World) (hv : SlH w v c) (hp : SlT w v2 ps) (hl : c.length ≤ 100000) (hpl : ps.length ≤ 1000000) (hb : ∀ p ∈ ps, p.length ≤ maxLen) (hcb : ∀ x ∈ c, x.1.length ≤ maxLen) :
    Calls Tryz.prog 13 #[v, v2] w fun e w' => ∃ u, e = .returned u ∧ OwnH w' w.heap.size u (onlyS c ps) ∧ Below w.heap.size w w' := by
  obtain ⟨ao, cap, rfl⟩ := SlR.form hv
  obtain ⟨bo, cbp, rfl⟩ := SlR.form hp
  have HV := hid hv
  have HL := hid hl
  have HCB := hid hcb
  have HPL := hid (DPlaces_any _ ps w hp hpl hb)
  clear hv hp hl hpl hb hcb
  go_enter Tryz.func13, Tryz.ntmps13
  go_wp2_with (go_at_call 28; refine HPL.out.mono ?_; rintro e w2 ⟨g, rfl, hg, hm, hb2⟩; obtain ⟨mn, mD, hm1, hm2⟩ := hm; have HM := hid hm1; have HSH := hid hm2; have HB2 := hid hb2; clear hg hm1 hm2 hb2)
  go_loopg [6, 15] c.length (fun gk r i wr => ∃ (k : Nat) (X : List ChangeS), k ≤ c.length ∧ c.length - k = gk ∧ i = .int .i64 k ∧ X.length ≤ k ∧ Hid (X = onlyS (c.take k) ps) ∧ Hid (OwnH wr w2.heap.size r X) ∧ Hid (Below w2.heap.size w2 wr))
  case atStart => exact ⟨0, [], Nat.zero_le _, rfl, rfl, Nat.zero_le _, hid rfl, hid (World.ownsRow_nil _ _ _ _), hid (Below.refl _ _)⟩
  case round =>
    obtain ⟨k, X, hk, rfl, rfl, hXl, HX, HO, HB⟩ := hrel
    have hz := HB.out.size
    have k0 : (0 : Int) ≤ (k : Int) := Int.natCast_nonneg _
    obtain ⟨no, nc, rfl⟩ := owns_form HO.out
    by_cases hlt : k < c.length
    · have k1 : (k : Int) < (c.length : Int) := by omega
      have kw : IntKind.i64.wrap ((k : Int) + 1) = (k : Int) + 1 := IntWalk.i64_in _ (by have := HL.out; omega)
      obtain ⟨b, o, p, d, x, t, hao, he, c0, c1, c2, c3⟩ := SlH.at (HV.out.old (HB2.out.trans (HB.out.mono HB2.out.size))) hlt
      subst hao
      have ht : c.take (k + 1) = c.take k ++ [(p, d, x, t)] := by rw [List.take_add_one, he]; rfl
      have HPp := hid (HCB.out _ (List.mem_iff_getElem?.2 ⟨k, he⟩))
      have HBA := hid (HB.out.alloc hz (.cells #[.string ⟨p.toArray⟩, .bool d, .bool x, .string ⟨t.toArray⟩] 29))
      have HXL := hid (show X.length ≤ 100000 by have := HL.out; omega)
      obtain ⟨is, his⟩ : ∃ z, (idxS ps p).isSome = z := ⟨_, rfl⟩
      have HIS := hid his
      have hin : inS ps p = is := by rw [← idx_in, his]
      have HMO := hid (OwnP.old HM.out HBA.out)
      clear he his
      cases is with
      | false =>
        have HX2 := hid (show X = onlyS (c.take (k + 1)) ps by rw [HX.out, ht]; simp [onlyS, hin])
        clear ht hin HX
        go_wp2_with (at_lookup; refine wpList_lookup_t rfl (.tmp 20) (.tmp 23) rfl g mn mD ps p rfl HMO.out HSH.out HPp.out rfl false HIS.out ?_; intro cc hcc; clear hcc)
        go_roundg (c.length - (k + 1))
        case measure => omega
        case rel => exact ⟨k + 1, X, by omega, rfl, by go_num, by omega, HX2, hid (HO.out.alloc _), HBA⟩
      | true =>
        have HX2 := hid (show X ++ [(p, d, x, t)] = onlyS (c.take (k + 1)) ps by rw [HX.out, ht]; simp [onlyS, hin])
        clear ht hin HX
        go_wp2_with (first
          | (at_lookup; refine wpList_lookup_t rfl (.tmp 20) (.tmp 23) rfl g mn mD ps p rfl HMO.out HSH.out HPp.out rfl true HIS.out ?_; intro cc hcc; clear hcc)
          | (at_builtin; refine wpList_append_h1 rfl (.tmp 28) (.tmp 30) rfl w2.heap.size _ X (p, d, x, t) rfl (HO.out.alloc _) (wr.heap.size + 1) rfl (by simp) (by have := HXL.out; omega) HBA.out.size ?_; intro v8 w8 o8 b8; have HO8 := hid o8; have HB8 := hid (HBA.out.trans b8); clear o8 b8))
        go_roundg (c.length - (k + 1))
        case measure => omega
        case rel => exact ⟨k + 1, X ++ [(p, d, x, t)], by omega, rfl, by go_num, by simp; omega, HX2, HO8, HB8⟩
    · obtain rfl : k = c.length := by omega
      have hneg : ¬ (c.length : Int) < (c.length : Int) := by omega
      have HX2 := hid (show X = onlyS c ps by rw [HX.out, List.take_length])
      go_wp2_with fail
      go_ret
      rw [← HX2.out]
      exact ⟨_, rfl, owns_lower HO.out HB2.out.size, HB2.out.trans (HB.out.mono HB2.out.size)⟩
end
end Go.Proofs.YtndmblelkeepjaaGreatDoor
