/-
  Package chunk: Clean, Merged.
-/
import Derived.Test.YtgmopmlhggdefaaCkR
namespace Go.Proofs.Ytgmopmlhggdefaa
open Go.RowKit

section
set_option maxRecDepth 100000
set_option maxHeartbeats 4000000
theorem DClean_any (v : Value) (cs : List CkS) (w : World) (hv : SlC w v cs) (hl : cs.length ≤ 4000000) :
    Calls Try.prog 16 #[v] w fun e w' => e = .returned (.bool (cleanS cs)) ∧ Below w.heap.size w w' := by
  obtain ⟨ao, cap, rfl⟩ := hv.form
  have HV := hid hv
  clear hv
  go_enter Try.func16, Try.ntmps16
  go_wp2_with fail
  go_loopg [7] cs.length (fun g i wr => ∃ k : Nat, k ≤ cs.length ∧ cs.length - k = g ∧ i = .int .i64 k ∧ Hid (cleanS cs = cleanS (cs.drop k)) ∧ Below w.heap.size w wr)
  case atStart => exact ⟨0, Nat.zero_le _, rfl, rfl, hid rfl, Below.refl _ _⟩
  case round =>
    obtain ⟨k, hk, rfl, rfl, HC, hbel⟩ := hrel
    have hz := hbel.size
    have k0 : (0 : Int) ≤ (k : Int) := Int.natCast_nonneg _
    by_cases hlt : k < cs.length
    · have k1 : (k : Int) < (cs.length : Int) := by omega
      have kw : IntKind.i64.wrap ((k : Int) + 1) = (k : Int) + 1 := IntWalk.i64_in _ (by omega)
      obtain ⟨b, o, z, xb, xo, xt, vb, vo, vt, rfl, c1, c2, c3, c4, s1, s2, s3, he⟩ := (HV.out.old hbel).at' (i := k) hlt
      have hd : cs.drop k = (z, xb, xo, xt) :: cs.drop (k + 1) := by
        obtain ⟨q, e⟩ := List.getElem?_eq_some_iff.1 he
        rw [List.drop_eq_getElem_cons q, e]
      have HN := hid (show cleanS cs = (z != 5 && cleanS (cs.drop (k + 1))) by rw [HC.out, hd]; rfl)
      have HBA := hid (fun o : Obj => hbel.alloc hz o)
      obtain ⟨_, _, rfl⟩ := s1.form
      obtain ⟨_, _, rfl⟩ := s2.form
      obtain ⟨_, _, rfl⟩ := s3.form
      clear s1 s2 s3 he hd HC
      by_cases h5 : z = 5
      · subst h5
        go_wp2_with fail
        go_ret
        exact ⟨by rw [HN.out]; rfl, HBA.out _⟩
      · have hb : (z == 5) = false := by simpa using h5
        have HN2 := hid (show cleanS cs = cleanS (cs.drop (k + 1)) by rw [HN.out, bne, hb]; rfl)
        clear h5 HN
        go_wp2_with fail
        go_roundg (cs.length - (k + 1))
        case measure => omega
        case rel => exact ⟨k + 1, by omega, rfl, rfl, HN2, HBA.out _⟩
    · obtain rfl : k = cs.length := by omega
      have hneg : ¬ (cs.length : Int) < (cs.length : Int) := by omega
      have HN := hid (show cleanS cs = true by rw [HC.out, List.drop_length]; rfl)
      go_wp2_with fail
      go_ret
      exact ⟨by rw [HN.out]; rfl, hbel⟩
theorem DMerged_any (v : Value) (cs : List CkS) (w : World) (hv : SlC w v cs) (hl : cs.length ≤ 1000) (hf : ckFew cs) :
    Calls Try.prog 19 #[v] w fun e w' => ∃ u, e = .returned u ∧ Sl w' u (strCells (mergedS cs)) ∧ Below w.heap.size w w' := by
  obtain ⟨ao, cap, rfl⟩ := hv.form
  have HV := hid hv
  have HF := hid hf
  clear hv hf
  go_enter Try.func19, Try.ntmps19
  go_wp2_with fail
  go_loopg [3, 8] cs.length (fun g out i wr => ∃ (k : Nat) (X : List (List UInt8)), k ≤ cs.length ∧ cs.length - k = g ∧ i = .int .i64 k ∧ Hid (X = mergedS (cs.take k)) ∧ X.length ≤ k * 4000000 ∧ Hid (wr.ownsRow w.heap.size 9 1 out X.length (strCells X)) ∧ Below w.heap.size w wr)
  case atStart => exact ⟨0, [], Nat.zero_le _, rfl, rfl, hid rfl, Nat.zero_le _, hid (World.ownsRow_nil _ _ _ _), Below.refl _ _⟩
  case round =>
    obtain ⟨k, X, hk, rfl, rfl, HX, hXl, HN, hbel⟩ := hrel
    have hz := hbel.size
    have k0 : (0 : Int) ≤ (k : Int) := Int.natCast_nonneg _
    obtain ⟨no, nc, rfl⟩ := owns_form HN.out
    by_cases hlt : k < cs.length
    · have k1 : (k : Int) < (cs.length : Int) := by omega
      have kw : IntKind.i64.wrap ((k : Int) + 1) = (k : Int) + 1 := IntWalk.i64_in _ (by omega)
      obtain ⟨b, o, z, xb, xo, xt, vb, vo, vt, rfl, c1, c2, c3, c4, s1, s2, s3, he⟩ := (HV.out.old hbel).at' (i := k) hlt
      have hm : mergedS (cs.take (k + 1)) = X ++ (if z = 3 then xt else xo) := by
        rw [take_snoc he, HX.out]
        simp [mergedS]
      have hfl := HF.out.at he
      have S2 := hid s2
      have S3 := hid s3
      have HBA := hid (fun o : Obj => hbel.alloc hz o)
      obtain ⟨_, _, rfl⟩ := s1.form
      obtain ⟨_, _, rfl⟩ := s2.form
      obtain ⟨_, _, rfl⟩ := s3.form
      clear he s1 s2 s3
      by_cases h3 : z = 3
      · subst h3
        have HM := hid (show X ++ xt = mergedS (cs.take (k + 1)) by rw [hm, if_pos rfl])
        have hln : X.length + xt.length ≤ (k + 1) * 4000000 := by have := hfl.2.2; omega
        clear hm S2 hfl
        go_wp2_with (refine wpList_append_ss rfl (.tmp 15) (.tmp 17) rfl w.heap.size _ X xt rfl (World.ownsRow.alloc HN.out _) _ rfl (Sl.alloc S3.out _) (by omega) (by simp; omega) ?_; intro v5 w5 hO5 hb5; have HO5 := hid hO5; have hb6 := (HBA.out _).trans hb5; clear hO5 hb5)
        go_wp2_with fail
        go_roundg (cs.length - (k + 1))
        case measure => omega
        case rel => exact ⟨k + 1, X ++ xt, by omega, rfl, rfl, HM, by rw [List.length_append]; exact hln, HO5, hb6⟩
      · have hb : (z == 3) = false := by simpa using h3
        have HM := hid (show X ++ xo = mergedS (cs.take (k + 1)) by rw [hm, if_neg h3])
        have hln : X.length + xo.length ≤ (k + 1) * 4000000 := by have := hfl.2.1; omega
        clear hm S3 hfl h3
        go_wp2_with (refine wpList_append_ss rfl (.tmp 19) (.tmp 21) rfl w.heap.size _ X xo rfl (World.ownsRow.alloc HN.out _) _ rfl (Sl.alloc S2.out _) (by omega) (by simp; omega) ?_; intro v5 w5 hO5 hb5; have HO5 := hid hO5; have hb6 := (HBA.out _).trans hb5; clear hO5 hb5)
        go_wp2_with fail
        go_roundg (cs.length - (k + 1))
        case measure => omega
        case rel => exact ⟨k + 1, X ++ xo, by omega, rfl, rfl, HM, by rw [List.length_append]; exact hln, HO5, hb6⟩
    · obtain rfl : k = cs.length := by omega
      have hneg : ¬ (cs.length : Int) < (cs.length : Int) := by omega
      have HM := hid (show X = mergedS cs by rw [HX.out, List.take_length])
      have HSL := hid (Sl.ofOwns HN.out)
      clear hXl
      go_wp2_with fail
      go_ret
      rw [← HM.out]
      exact ⟨_, rfl, HSL.out, hbel⟩
end
end Go.Proofs.Ytgmopmlhggdefaa
