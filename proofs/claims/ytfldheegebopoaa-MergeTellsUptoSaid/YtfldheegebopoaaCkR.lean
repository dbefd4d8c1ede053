/-
  Chunks (the document's own): the places of lines; what stands between; clean, merged.
-/
import Derived.Test.YtfldheegebopoaaCkA
import Derived.Test.YtfldheegebopoaaCkT
import Derived.Test.YtfldheegebopoaaIntS
import Derived.Test.YtfldheegebopoaaRdfS
import Derived.Test.YtfldheegebopoaaCkB
import Derived.Deep.LoopGhost
import Derived.Deep.RegionHeld3
namespace Go.Proofs.Ytfldheegebopoaa
open Go.RowKit

section
variable {α : Type}
theorem place_at {s : List (Int × α)} {j : Nat} {k : Int} {x : α} (h : s[j]? = some (k, x)) (n : Nat) :
    placesG n (s.drop j) = if k = 1 then (n : Int) :: placesG (n + 1) (s.drop (j + 1)) else if k = 2 then -1 :: placesG n (s.drop (j + 1)) else placesG (n + 1) (s.drop (j + 1)) := by
  obtain ⟨q, e⟩ := List.getElem?_eq_some_iff.1 h
  rw [List.drop_eq_getElem_cons q, e]
  rfl
end
section
set_option maxRecDepth 100000
set_option maxHeartbeats 4000000
theorem RPlaces_any (va vb : Value) (a b : List (List UInt8)) (w : World) (ha : Sl w va (strCells a)) (hb : Sl w vb (strCells b)) (hal : a.length ≤ 1000) (hbl : b.length ≤ 1000) :
    Calls Try.prog 40 #[va, vb] w fun e w' => ∃ u, e = .returned u ∧ Sl w' u (intCells (placesS a b)) ∧ Below w.heap.size w w' := by
  have HCALL := hid (RScript_any va vb a b w ha hb (by omega) (by omega))
  have hfew : (scriptS a b).length ≤ 2000 := by
    have := (scriptS_all a b).2.2.2
    omega
  unfold placesS
  obtain ⟨s, hs⟩ : ∃ s, scriptS a b = s := ⟨_, rfl⟩
  rw [hs] at HCALL hfew ⊢
  obtain ⟨aa, ca, rfl⟩ := ha.form
  obtain ⟨ab, cb, rfl⟩ := hb.form
  clear ha hb hs hal hbl
  go_enter Try.func40, Try.ntmps40
  go_wp2_with fail
  refine HCALL.out.mono ?_
  rintro e w1 ⟨l, rfl, hE, hb1⟩
  obtain ⟨lo, lc, rfl⟩ := hE.form
  have HE := hid hE.slE
  have hz1 := hb1.size
  clear hE HCALL
  go_wp2_with fail
  go_loopg [6, 7, 8] s.length (fun g nx at' i wx => ∃ (m A : Nat) (X : List Int), m ≤ s.length ∧ g = s.length - m ∧ i = .int .i64 m ∧ at' = .int .i64 A ∧ A ≤ m ∧ Hid (X ++ placesG A (s.drop m) = placesG 0 s) ∧ Hid (wx.ownsRow w1.heap.size 3 1 nx X.length (intCells X)) ∧ Hid (X.length ≤ m) ∧ Below w1.heap.size w1 wx)
  case atStart => exact ⟨0, 0, [], Nat.zero_le _, rfl, rfl, rfl, Nat.le_refl _, hid (by rw [List.drop_zero]; rfl), hid (World.ownsRow_nil _ _ _ _), hid (Nat.le_refl _), Below.refl _ _⟩
  case round =>
    obtain ⟨m, A, X, hm, rfl, rfl, rfl, hAm, HX, HN, HXL, hbx⟩ := hrel
    have hzx := hbx.size
    obtain ⟨no, nc, rfl⟩ := owns_form HN.out
    have m0 : (0 : Int) ≤ (m : Int) := Int.natCast_nonneg _
    have A0 : (0 : Int) ≤ (A : Int) := Int.natCast_nonneg _
    by_cases hmt : m < s.length
    · have m1 : (m : Int) < (s.length : Int) := by omega
      have mw : IntKind.i64.wrap ((m : Int) + 1) = (m : Int) + 1 := IntWalk.i64_in _ (by omega)
      have aw : IntKind.i64.wrap ((A : Int) + 1) = ((A + 1 : Nat) : Int) := (IntWalk.i64_in _ (by omega)).trans (by omega)
      obtain ⟨be, oe, c, x, rfl, hc, hd, he⟩ := (HE.out.old hbx).at' (i := m) hmt
      have HST := hid (place_at he A)
      have hXm : X.length ≤ 4000000000 := by have := HXL.out; omega
      clear he hd
      by_cases h1 : c = 1
      · subst h1
        have HX2 := hid (show (X ++ [(A : Int)]) ++ placesG (A + 1) (s.drop (m + 1)) = placesG 0 s by
          rw [← HX.out, HST.out, if_pos rfl, List.append_assoc]
          rfl)
        clear HX HST
        go_wp2_with (refine wpList_append_int (w := wr) (by rfl) (.tmp 27) (.tmp 29) (by rfl) w1.heap.size _ X (A : Int) (by rfl) HN.out (by rfl) hXm hzx ?_; intro v5 w5 hO5 B5 K5; have HO5 := hid hO5; have hb5 := hbx.trans B5; clear hO5 B5 K5)
        go_wp2_with fail
        go_roundg (s.length - (m + 1))
        case measure => omega
        case rel => exact ⟨m + 1, A + 1, X ++ [(A : Int)], by omega, rfl, by go_num, rfl, by omega, HX2, HO5, hid (by have := HXL.out; rw [List.length_append, List.length_singleton]; omega), hb5⟩
      · by_cases h2 : c = 2
        · subst h2
          have HX2 := hid (show (X ++ [(-1 : Int)]) ++ placesG A (s.drop (m + 1)) = placesG 0 s by
            rw [← HX.out, HST.out, if_neg (by decide), if_pos rfl, List.append_assoc]
            rfl)
          clear HX HST h1
          go_wp2_with (refine wpList_append_int (w := wr) (by rfl) (.tmp 35) (.tmp 36) (by rfl) w1.heap.size _ X (-1 : Int) (by rfl) HN.out (by rfl) hXm hzx ?_; intro v5 w5 hO5 B5 K5; have HO5 := hid hO5; have hb5 := hbx.trans B5; clear hO5 B5 K5)
          go_wp2_with fail
          go_roundg (s.length - (m + 1))
          case measure => omega
          case rel => exact ⟨m + 1, A, X ++ [(-1 : Int)], by omega, rfl, by go_num, rfl, by omega, HX2, HO5, hid (by have := HXL.out; rw [List.length_append, List.length_singleton]; omega), hb5⟩
        · have HX2 := hid (show X ++ placesG (A + 1) (s.drop (m + 1)) = placesG 0 s by
            rw [← HX.out, HST.out, if_neg h1, if_neg h2])
          have c1b : (c == 1) = false := by simpa using h1
          have c2b : (c == 2) = false := by simpa using h2
          clear HX HST h1 h2
          go_wp2_with fail
          go_roundg (s.length - (m + 1))
          case measure => omega
          case rel => exact ⟨m + 1, A + 1, X, by omega, rfl, by go_num, rfl, by omega, HX2, HN, hid (by have := HXL.out; omega), hbx⟩
    · obtain rfl : m = s.length := by omega
      have hneg : ¬ (s.length : Int) < (s.length : Int) := by omega
      have hXe : X = placesG 0 s := by
        have := HX.out
        rw [List.drop_length] at this
        rw [← this]
        exact (List.append_nil X).symm
      have HXE := hid hXe
      have HSL := hid (Sl.ofOwns HN.out)
      clear hXe
      go_wp2_with fail
      go_ret
      rw [← HXE.out]
      exact ⟨_, rfl, HSL.out, below_step hb1 hbx hz1⟩

theorem RClean_any (v : Value) (cs : List CkS) (w : World) (hv : SlC w v cs) (hl : cs.length ≤ 4000000) :
    Calls Try.prog 32 #[v] w fun e w' => e = .returned (.bool (cleanS cs)) ∧ w = w' := by
  obtain ⟨ao, cap, rfl⟩ := hv.form
  have HV := hid hv
  clear hv
  go_enter Try.func32, Try.ntmps32
  go_wp2_with fail
  go_loopg [3] cs.length (fun g i wr => ∃ k : Nat, k ≤ cs.length ∧ cs.length - k = g ∧ i = .int .i64 k ∧ Hid (cleanS cs = cleanS (cs.drop k)) ∧ w = wr)
  case atStart => exact ⟨0, Nat.zero_le _, rfl, rfl, hid rfl, rfl⟩
  case round =>
    obtain ⟨k, hk, rfl, rfl, HC, rfl⟩ := hrel
    have k0 : (0 : Int) ≤ (k : Int) := Int.natCast_nonneg _
    by_cases hlt : k < cs.length
    · have k1 : (k : Int) < (cs.length : Int) := by omega
      have kw : IntKind.i64.wrap ((k : Int) + 1) = (k : Int) + 1 := IntWalk.i64_in _ (by omega)
      obtain ⟨b, o, z, xb, xo, xt, vb, vo, vt, rfl, c1, c2, c3, c4, s1, s2, s3, he⟩ := HV.out.at' (i := k) hlt
      have hd : cs.drop k = (z, xb, xo, xt) :: cs.drop (k + 1) := by
        obtain ⟨q, e⟩ := List.getElem?_eq_some_iff.1 he
        rw [List.drop_eq_getElem_cons q, e]
      have HN := hid (show cleanS cs = (z != 5 && cleanS (cs.drop (k + 1))) by rw [HC.out, hd]; rfl)
      clear c2 c3 c4 s1 s2 s3 he hd HC
      by_cases h5 : z = 5
      · subst h5
        go_wp2_with fail
        go_ret
        exact ⟨by rw [HN.out]; rfl, rfl⟩
      · have hb : (z == 5) = false := by simpa using h5
        have HN2 := hid (show cleanS cs = cleanS (cs.drop (k + 1)) by rw [HN.out, bne, hb]; rfl)
        clear h5 HN
        go_wp2_with fail
        go_roundg (cs.length - (k + 1))
        case measure => omega
        case rel => exact ⟨k + 1, by omega, rfl, rfl, HN2, rfl⟩
    · obtain rfl : k = cs.length := by omega
      have hneg : ¬ (cs.length : Int) < (cs.length : Int) := by omega
      have HN := hid (show cleanS cs = true by rw [HC.out, List.drop_length]; rfl)
      go_wp2_with fail
      go_ret
      exact ⟨by rw [HN.out]; rfl, rfl⟩

theorem RMerged_any (v : Value) (cs : List CkS) (w : World) (hv : SlC w v cs) (hl : cs.length ≤ 1000) (hf : ckFew cs) :
    Calls Try.prog 23 #[v] w fun e w' => ∃ u, e = .returned u ∧ w'.ownsRow w.heap.size 9 1 u (mergedS cs).length (strCells (mergedS cs)) ∧ Below w.heap.size w w' := by
  obtain ⟨ao, cap, rfl⟩ := hv.form
  have HV := hid hv
  have HF := hid hf
  clear hv hf
  go_enter Try.func23, Try.ntmps23
  go_wp2_with fail
  go_loopg [3, 4] cs.length (fun g out i wr => ∃ (k : Nat) (X : List (List UInt8)), k ≤ cs.length ∧ cs.length - k = g ∧ i = .int .i64 k ∧ Hid (X = mergedS (cs.take k)) ∧ X.length ≤ k * 4000000 ∧ Hid (wr.ownsRow w.heap.size 9 1 out X.length (strCells X)) ∧ Below w.heap.size w wr)
  case atStart => exact ⟨0, [], Nat.zero_le _, rfl, rfl, hid rfl, Nat.zero_le _, hid (World.ownsRow_nil _ _ _ _), Below.refl _ _⟩
  case round =>
    obtain ⟨k, X, hk, rfl, rfl, HX, hXl, HN, hbel⟩ := hrel
    have hz := hbel.size
    have k0 : (0 : Int) ≤ (k : Int) := Int.natCast_nonneg _
    obtain ⟨no, nc, rfl⟩ := owns_form HN.out
    by_cases hlt : k < cs.length
    · have k1 : (k : Int) < (cs.length : Int) := by omega
      have kw : IntKind.i64.wrap ((k : Int) + 1) = (k : Int) + 1 := IntWalk.i64_in _ (by omega)
      obtain ⟨b, o, z, xb, xo, xt, vb, vo, vt, rfl, c1, c2, c3, c4, s1, s2, s3, he⟩ := (HV.out.old hbel).at' (i := k) hlt
      have hm : mergedS (cs.take (k + 1)) = X ++ (if z = 3 then xt else xo) := by
        rw [take_snoc he, HX.out]
        simp [mergedS]
      have hfl := HF.out.at he
      clear he c2 s1
      by_cases h3 : z = 3
      · subst h3
        have HM := hid (show X ++ xt = mergedS (cs.take (k + 1)) by rw [hm, if_pos rfl])
        have hln : X.length + xt.length ≤ (k + 1) * 4000000 := by have := hfl.2.2; omega
        clear hm c3 s2 hfl
        go_wp2_with (refine wpList_append_ss rfl (.tmp 17) (.tmp 22) rfl w.heap.size _ X xt rfl HN.out _ rfl s3 (by omega) hz ?_; intro v5 w5 hO5 hb5; have HO5 := hid hO5; have hb6 := hbel.trans hb5; clear hO5 hb5)
        go_wp2_with fail
        go_roundg (cs.length - (k + 1))
        case measure => omega
        case rel => exact ⟨k + 1, X ++ xt, by omega, rfl, rfl, HM, by rw [List.length_append]; exact hln, HO5, hb6⟩
      · have hb : (z == 3) = false := by simpa using h3
        have HM := hid (show X ++ xo = mergedS (cs.take (k + 1)) by rw [hm, if_neg h3])
        have hln : X.length + xo.length ≤ (k + 1) * 4000000 := by have := hfl.2.1; omega
        clear hm c4 s3 hfl h3
        go_wp2_with (refine wpList_append_ss rfl (.tmp 24) (.tmp 29) rfl w.heap.size _ X xo rfl HN.out _ rfl s2 (by omega) hz ?_; intro v5 w5 hO5 hb5; have HO5 := hid hO5; have hb6 := hbel.trans hb5; clear hO5 hb5)
        go_wp2_with fail
        go_roundg (cs.length - (k + 1))
        case measure => omega
        case rel => exact ⟨k + 1, X ++ xo, by omega, rfl, rfl, HM, by rw [List.length_append]; exact hln, HO5, hb6⟩
    · obtain rfl : k = cs.length := by omega
      have hneg : ¬ (cs.length : Int) < (cs.length : Int) := by omega
      have HM := hid (show X = mergedS cs by rw [HX.out, List.take_length])
      clear hXl
      go_wp2_with fail
      go_ret
      rw [← HM.out]
      exact ⟨_, rfl, HN.out, hbel⟩
end
end Go.Proofs.Ytfldheegebopoaa
