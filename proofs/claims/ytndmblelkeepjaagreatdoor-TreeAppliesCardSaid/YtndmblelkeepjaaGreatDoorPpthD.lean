/-
  The contracts of package path that the laws of stage 11 use, over the landed code.
-/
import Derived.Test.YtndmblelkeepjaaGreatDoorRpth
import Derived.Test.YtndmblelkeepjaaGreatDoorPthS
import Derived.Test.YtndmblelkeepjaaGreatDoorConv
import Derived.Deep.LoopGhost
namespace Go.Proofs.YtndmblelkeepjaaGreatDoor
open Go.RowKit
section
/-- does s begin with p -/
def prefS (s p : List UInt8) : Bool := decide (p.length ≤ s.length) && s.take p.length == p
theorem within_pref (p d : List UInt8) : withinS p d = (prefS p d && prefS (p.drop d.length) [47]) := by
  unfold withinS prefS
  by_cases h1 : d.length < p.length
  · obtain ⟨c, hc⟩ : ∃ c, p[d.length]? = some c := ⟨p[d.length], List.getElem?_eq_getElem h1⟩
    have hd : p.drop d.length = c :: p.drop (d.length + 1) := by
      obtain ⟨q, e⟩ := List.getElem?_eq_some_iff.1 hc
      rw [List.drop_eq_getElem_cons q, e]
    rw [hd, hc, decide_eq_true h1, decide_eq_true (Nat.le_of_lt h1)]
    simp
  · rw [decide_eq_false h1]
    have : (p.drop d.length).length = 0 := by rw [List.length_drop]; omega
    rw [List.eq_nil_of_length_eq_zero this]
    simp
end
section
set_option maxRecDepth 100000
set_option maxHeartbeats 2000000
theorem PHasP_any (s p : List UInt8) (w : World) :
    Calls Tryz.prog 90 #[strV s, strV p] w fun e w' => e = .returned (.bool (prefS s p)) ∧ w = w' := by
  unfold strV
  by_cases h1 : p.length ≤ s.length
  · have b1 : decide ((p.length : Int) ≤ (s.length : Int)) = true := decide_eq_true (by omega)
    have b2 : decide (p.length ≤ s.length) = true := decide_eq_true h1
    have hsl := run_str_to (P := Tryz.prog) 9 Tryz.underlying9 s p.length h1
    have hW : prefS s p = (s.take p.length == p) := by
      unfold prefS
      rw [b2, Bool.true_and]
    obtain ⟨x, hx⟩ : ∃ x, s.take p.length = x := ⟨_, rfl⟩
    rw [hx] at hsl hW
    have HW := hid hW
    clear hW hx
    go_enter Tryz.func90, Tryz.ntmps90
    go_wp2_with fail
    go_ret
    exact ⟨by rw [HW.out]; rfl, rfl⟩
  · have b1 : decide ((p.length : Int) ≤ (s.length : Int)) = false := decide_eq_false (by omega)
    have b2 : decide (p.length ≤ s.length) = false := decide_eq_false h1
    have HW := hid (show prefS s p = false by unfold prefS; rw [b2]; rfl)
    go_enter Tryz.func90, Tryz.ntmps90
    go_wp2_with fail
    go_ret
    exact ⟨by rw [HW.out]; rfl, rfl⟩
theorem DHasP_any (s p : List UInt8) (w : World) :
    Calls Tryz.prog 87 #[strV s, strV p] w fun e w' => e = .returned (.bool (prefS s p)) ∧ w = w' := by
  have H := hid (PHasP_any s p w)
  unfold strV at H ⊢
  go_enter Tryz.func87, Tryz.ntmps87
  go_wp2_with fail
  refine H.out.mono ?_
  rintro e w1 ⟨rfl, rfl⟩
  go_wp2_with fail
  go_ret
  exact ⟨rfl, rfl⟩
theorem PCutP_any (s p : List UInt8) (w : World) :
    Calls Tryz.prog 89 #[strV s, strV p] w fun e w' => e = .returned (.tuple #[strV (if prefS s p then s.drop p.length else s), .bool (prefS s p)]) ∧ w = w' := by
  have H := hid (PHasP_any s p w)
  obtain ⟨b, hb⟩ : ∃ b, prefS s p = b := ⟨_, rfl⟩
  have hl : b = true → p.length ≤ s.length := fun h => by
    rw [← hb] at h
    unfold prefS at h
    exact of_decide_eq_true (Bool.and_eq_true _ _ ▸ h).1
  rw [hb] at H ⊢
  clear hb
  unfold strV at H ⊢
  cases b with
  | true =>
    have hsl := run_str_from (P := Tryz.prog) 9 Tryz.underlying9 s p.length (hl rfl)
    obtain ⟨x, hx⟩ : ∃ x, s.drop p.length = x := ⟨_, rfl⟩
    rw [hx] at hsl
    have HX := hid hx
    clear hl hx
    go_enter Tryz.func89, Tryz.ntmps89
    go_wp2_with fail
    refine H.out.mono ?_
    rintro e w1 ⟨rfl, rfl⟩
    go_wp2_with fail
    go_ret2
    exact ⟨by rw [← HX.out]; rfl, rfl⟩
  | false =>
    clear hl
    go_enter Tryz.func89, Tryz.ntmps89
    go_wp2_with fail
    refine H.out.mono ?_
    rintro e w1 ⟨rfl, rfl⟩
    go_wp2_with fail
    go_ret2
    exact ⟨rfl, rfl⟩
theorem DCutP_any (s p : List UInt8) (w : World) :
    Calls Tryz.prog 86 #[strV s, strV p] w fun e w' => e = .returned (.tuple #[strV (if prefS s p then s.drop p.length else s), .bool (prefS s p)]) ∧ w = w' := by
  obtain ⟨x, hx⟩ : ∃ x, (if prefS s p then s.drop p.length else s) = x := ⟨_, rfl⟩
  obtain ⟨b, hb⟩ : ∃ b, prefS s p = b := ⟨_, rfl⟩
  have H := PCutP_any s p w
  rw [hx, hb] at H ⊢
  have H := hid H
  clear hx hb
  unfold strV at H ⊢
  go_enter Tryz.func86, Tryz.ntmps86
  go_wp2_with fail
  refine H.out.mono ?_
  rintro e w1 ⟨rfl, rfl⟩
  go_wp2_with fail
  go_ret2
  exact ⟨rfl, rfl⟩
theorem DParts_any (p : List UInt8) (w : World) (hl : p.length ≤ 1000000) :
    Calls Tryz.prog 72 #[strV p] w fun e w' => ∃ u, e = .returned u ∧ Sl w' u (strCells (partsS p)) ∧ Below w.heap.size w w' := by
  have H := SSplit_any p 47 w hl
  rw [cuts_parts] at H
  have H := hid H
  clear hl
  unfold partsS
  unfold strV at H ⊢
  go_enter Tryz.func72, Tryz.ntmps72
  go_wp2_with fail
  refine H.out.mono ?_
  rintro e w1 ⟨u, rfl, ho, hb⟩
  have HS := hid ho
  have HB := hid hb
  clear ho hb
  go_wp2_with fail
  go_ret
  exact ⟨u, rfl, HS.out, HB.out⟩
theorem PName_any (x : List UInt8) (w : World) :
    Calls Tryz.prog 73 #[strV x] w fun e w' => e = .returned (.bool (okPart x)) ∧ w = w' := by
  have hY : okPart x = (!(x == []) && (!(x == [46]) && !(x == [46, 46]))) := rfl
  obtain ⟨Y, hYY⟩ : ∃ Y, okPart x = Y := ⟨_, rfl⟩
  rw [hYY] at hY ⊢
  unfold strV
  clear hYY
  by_cases h1 : x = []
  · have b1 : (x == []) = true := by simpa using h1
    have HY := hid (show Y = false by rw [hY, b1]; rfl)
    clear h1 hY
    go_enter Tryz.func73, Tryz.ntmps73
    go_wp2_with fail
    go_ret
    exact ⟨by rw [HY.out]; rfl, rfl⟩
  · have b1 : (x == []) = false := by simpa using h1
    by_cases h2 : x = [46]
    · have b2 : (x == [46]) = true := by simpa using h2
      have HY := hid (show Y = false by rw [hY, b1, b2]; rfl)
      clear h1 h2 hY
      go_enter Tryz.func73, Tryz.ntmps73
      go_wp2_with fail
      go_ret
      exact ⟨by rw [HY.out]; rfl, rfl⟩
    · have b2 : (x == [46]) = false := by simpa using h2
      by_cases h3 : x = [46, 46]
      · have b3 : (x == [46, 46]) = true := by simpa using h3
        have HY := hid (show Y = false by rw [hY, b1, b2, b3]; rfl)
        clear h1 h2 h3 hY
        go_enter Tryz.func73, Tryz.ntmps73
        go_wp2_with fail
        go_ret
        exact ⟨by rw [HY.out]; rfl, rfl⟩
      · have b3 : (x == [46, 46]) = false := by simpa using h3
        have HY := hid (show Y = true by rw [hY, b1, b2, b3]; rfl)
        clear h1 h2 h3 hY
        go_enter Tryz.func73, Tryz.ntmps73
        go_wp2_with fail
        go_ret
        exact ⟨by rw [HY.out]; rfl, rfl⟩
theorem PStand_any (p : List UInt8) (w : World) (hl : p.length ≤ 1000000) :
    Calls Tryz.prog 71 #[strV p] w fun e w' => e = .returned (.bool (p.all okByte)) ∧ Below w.heap.size w w' := by
  have HL := hid hl
  obtain ⟨cap, wc, hcv, hsc, hzc, hbc⟩ := conv_sl (P := Tryz.prog) w 9 93 5 p Tryz.underlying9 Tryz.underlying93 Tryz.underlying5
  have HS := hid hsc
  have HB := hid hbc
  clear hsc hbc hl
  unfold strV
  go_enter Tryz.func71, Tryz.ntmps71
  go_wp2_with fail
  go_loopg [9] p.length (fun g i wr => ∃ k : Nat, k ≤ p.length ∧ p.length - k = g ∧ i = .int .i64 k ∧ Hid (p.all okByte = (p.drop k).all okByte) ∧ wr = wc)
  case atStart => exact ⟨0, Nat.zero_le _, rfl, rfl, hid rfl, rfl⟩
  case round =>
    obtain ⟨k, hk, rfl, rfl, HA, rfl⟩ := hrel
    have k0 : (0 : Int) ≤ (k : Int) := Int.natCast_nonneg _
    by_cases hlt : k < p.length
    · have k1 : (k : Int) < (p.length : Int) := by omega
      have kw : IntKind.i64.wrap ((k : Int) + 1) = (k : Int) + 1 := IntWalk.i64_in _ (by have := HL.out; omega)
      obtain ⟨a, c, hae, hcell, hc⟩ := HS.out.byteAt' (i := k) hlt
      cases hae
      rw [Addr.add_lit, Nat.zero_add] at hcell
      have c256 := c.toNat_lt
      have cw : wrap64 ((c.toNat : Nat) : Int) = ((c.toNat : Nat) : Int) := IntWalk.wrap64_in _ (by omega)
      have cw' : IntKind.i64.wrap ((c.toNat : Nat) : Int) = ((c.toNat : Nat) : Int) := IntWalk.i64_in _ (by omega)
      clear c256
      have hd : p.drop k = c :: p.drop (k + 1) := by
        obtain ⟨q, e⟩ := List.getElem?_eq_some_iff.1 hc
        rw [List.drop_eq_getElem_cons q, e]
      have HX := hid (show p.all okByte = (okByte c && (p.drop (k + 1)).all okByte) by rw [HA.out, hd]; rfl)
      by_cases h1 : c.toNat < 33
      · have b1 : decide (((c.toNat : Nat) : Int) < 33) = true := decide_eq_true (by omega)
        have b2 : decide (c.toNat < 33) = true := decide_eq_true h1
        have hz : okByte c = false := by unfold okByte; exact decide_eq_false (by omega)
        have HF := hid (show p.all okByte = false by rw [HX.out, hz]; rfl)
        clear hd hc h1 hz HX HA
        go_wp2_with fail
        go_ret
        exact ⟨by rw [HF.out]; rfl, HB.out⟩
      · have b1 : decide (((c.toNat : Nat) : Int) < 33) = false := decide_eq_false (by omega)
        have b2 : decide (c.toNat < 33) = false := decide_eq_false h1
        by_cases h2 : 126 < c.toNat
        · have b3 : decide (126 < ((c.toNat : Nat) : Int)) = true := decide_eq_true (by omega)
          have b4 : decide (126 < c.toNat) = true := decide_eq_true h2
          have hz : okByte c = false := by unfold okByte; exact decide_eq_false (by omega)
          have HF := hid (show p.all okByte = false by rw [HX.out, hz]; rfl)
          clear hd hc h1 h2 hz HX HA
          go_wp2_with fail
          go_ret
          exact ⟨by rw [HF.out]; rfl, HB.out⟩
        · have b3 : decide (126 < ((c.toNat : Nat) : Int)) = false := decide_eq_false (by omega)
          have b4 : decide (126 < c.toNat) = false := decide_eq_false h2
          have hz : okByte c = true := by unfold okByte; exact decide_eq_true (by omega)
          have HX2 := hid (show p.all okByte = (p.drop (k + 1)).all okByte by rw [HX.out, hz, Bool.true_and])
          clear hd hc h1 h2 hz HX HA
          go_wp2_with fail
          go_roundg (p.length - (k + 1))
          case measure => omega
          case rel => exact ⟨k + 1, by omega, rfl, by go_num, HX2, rfl⟩
    · obtain rfl : k = p.length := by omega
      have hneg : ¬ (p.length : Int) < (p.length : Int) := by omega
      have HF := hid (show p.all okByte = true by rw [HA.out, List.drop_length]; rfl)
      clear HA
      go_wp2_with fail
      go_ret
      exact ⟨by rw [HF.out]; rfl, HB.out⟩
theorem DWithin_any (p d : List UInt8) (w : World) (_hp : p.length ≤ 1000000) (_hd : d.length ≤ 1000000) :
    Calls Tryz.prog 82 #[strV p, strV d] w fun e w' => e = .returned (.bool (withinS p d)) ∧ Below w.heap.size w w' := by
  have hY := within_pref p d
  obtain ⟨Y, hYY⟩ : ∃ Y, withinS p d = Y := ⟨_, rfl⟩
  rw [hYY] at hY ⊢
  have H1 := DCutP_any p d w
  obtain ⟨b, hb⟩ : ∃ b, prefS p d = b := ⟨_, rfl⟩
  rw [hb] at hY H1
  clear hYY hb _hp _hd
  cases b with
  | true =>
    rw [if_pos rfl] at H1
    have H2 := DHasP_any (p.drop d.length) [47] w
    obtain ⟨x, hx⟩ : ∃ x, p.drop d.length = x := ⟨_, rfl⟩
    rw [hx] at hY H1 H2
    obtain ⟨y, hy⟩ : ∃ y, prefS x [47] = y := ⟨_, rfl⟩
    rw [hy] at hY H2
    have HY := hid hY
    have H1 := hid H1
    have H2 := hid H2
    clear hx hy hY
    unfold strV at H1 H2 ⊢
    go_enter Tryz.func82, Tryz.ntmps82
    go_wp2_with (first
      | (go_at_call 86; with_reducible refine H1.out.mono ?_; rintro e _ ⟨rfl, rfl⟩)
      | (go_at_call 87; with_reducible refine H2.out.mono ?_; rintro e _ ⟨rfl, rfl⟩))
    go_ret
    exact ⟨by rw [HY.out]; rfl, Below.refl _ _⟩
  | false =>
    rw [if_neg (by decide)] at H1
    have HY := hid (show Y = false by rw [hY]; rfl)
    have H1 := hid H1
    clear hY
    unfold strV at H1 ⊢
    go_enter Tryz.func82, Tryz.ntmps82
    go_wp2_with (first
      | (go_at_call 86; with_reducible refine H1.out.mono ?_; rintro e _ ⟨rfl, rfl⟩))
    go_ret
    exact ⟨by rw [HY.out]; rfl, Below.refl _ _⟩
theorem DClash_any (p d : List UInt8) (w : World) (hp : p.length ≤ 1000000) (hd : d.length ≤ 1000000) :
    Calls Tryz.prog 70 #[strV p, strV d] w fun e w' => e = .returned (.bool (clashS p d)) ∧ Below w.heap.size w w' := by
  have H1 := hid fun wx => DWithin_any p d wx hp hd
  have H2 := hid fun wx => DWithin_any d p wx hd hp
  have hC : clashS p d = (p == d || (withinS p d || withinS d p)) := rfl
  obtain ⟨C, hCC⟩ : ∃ C, clashS p d = C := ⟨_, rfl⟩
  obtain ⟨x, hx⟩ : ∃ x, withinS p d = x := ⟨_, rfl⟩
  obtain ⟨y, hy⟩ : ∃ y, withinS d p = y := ⟨_, rfl⟩
  rw [hCC, hx, hy] at hC
  rw [hx] at H1
  rw [hy] at H2
  rw [hCC]
  unfold strV at H1 H2 ⊢
  clear hCC hx hy hp hd
  by_cases h : p = d
  · have c1 : (p == d) = true := by simpa using h
    have HC := hid (show C = true by rw [hC, c1]; rfl)
    clear hC h
    go_enter Tryz.func70, Tryz.ntmps70
    go_wp2_with fail
    go_ret
    exact ⟨by rw [HC.out]; rfl, Below.refl _ _⟩
  · have c1 : (p == d) = false := by simpa using h
    rw [c1, Bool.false_or] at hC
    have HC := hid hC
    clear hC h
    go_enter Tryz.func70, Tryz.ntmps70
    cases x <;> (
      go_wp2_with (first
        | (go_at_call 82; with_reducible refine (H1.out _).mono ?_; rintro e w1 ⟨rfl, hb1⟩; have HB1 := hid hb1; clear hb1)
        | (go_at_call 82; with_reducible refine (H2.out _).mono ?_; rintro e w2 ⟨rfl, hb2⟩; have HB1 := hid (below_step HB1.out hb2 HB1.out.size); clear hb2))
      go_ret
      exact ⟨by rw [HC.out]; rfl, HB1.out⟩)
theorem DRightP_any (p : List UInt8) (w : World) (hl : p.length ≤ 1000000) :
    Calls Tryz.prog 49 #[strV p] w fun e w' => e = .returned (.bool (rightS p)) ∧ Below w.heap.size w w' := by
  have hr : rightS p = (decide (p.length ≤ 100) && (p.all okByte && (partsS p).all okPart)) := by
    unfold rightS
    by_cases h0 : p.length = 0
    · obtain rfl := List.eq_nil_of_length_eq_zero h0
      rfl
    · by_cases h1 : p.length ≤ 100
      · rw [decide_eq_true h1, decide_eq_true ⟨by omega, h1⟩]
      · rw [decide_eq_false h1, decide_eq_false (fun h => h1 h.2)]
  obtain ⟨Y, hYY⟩ : ∃ Y, rightS p = Y := ⟨_, rfl⟩
  rw [hYY] at hr ⊢
  clear hYY
  have H1 := PStand_any p w hl
  obtain ⟨b, hb⟩ : ∃ b, p.all okByte = b := ⟨_, rfl⟩
  rw [hb] at hr H1
  clear hb
  have H1 := hid H1
  have H2 := hid fun wx => DParts_any p wx hl
  have hpl := partsS_len p
  obtain ⟨L, hL⟩ : ∃ L, partsS p = L := ⟨_, rfl⟩
  rw [hL] at H2 hr hpl
  have HLL := hid (show L.length ≤ 1000001 by omega)
  clear hL hpl hl
  unfold strV at H1 H2 ⊢
  by_cases hn : p.length ≤ 100
  · have p2 : decide (100 < (p.length : Int)) = false := decide_eq_false (by omega)
    have p4 : decide (100 < p.length) = false := decide_eq_false (by omega)
    rw [decide_eq_true hn, Bool.true_and] at hr
    cases b with
    | false =>
      have HY := hid (show Y = false by rw [hr]; rfl)
      clear hr hn
      go_enter Tryz.func49, Tryz.ntmps49
      go_wp2_with (go_at_call 71; with_reducible refine H1.out.mono ?_; rintro e w1 ⟨rfl, hb1⟩; have HB1 := hid hb1; clear hb1)
      go_ret
      exact ⟨by rw [HY.out]; rfl, HB1.out⟩
    | true =>
      have HY := hid (show Y = L.all okPart by rw [hr]; rfl)
      clear hr hn
      go_enter Tryz.func49, Tryz.ntmps49
      go_wp2_with (first
        | (go_at_call 71; with_reducible refine H1.out.mono ?_; rintro e w1 ⟨rfl, hb1⟩; have HB1 := hid hb1; clear hb1)
        | (go_at_call 72; with_reducible refine (H2.out _).mono ?_; rintro e w2 ⟨u, rfl, hs2, hb2⟩; obtain ⟨lo, lc, rfl⟩ := hs2.form; have HS := hid hs2; have HB := hid (below_step HB1.out hb2 HB1.out.size); clear hs2 hb2; rw [strCells_length]))
      go_loopg [16] L.length (fun g i wx => ∃ k : Nat, k ≤ L.length ∧ L.length - k = g ∧ i = .int .i64 k ∧ Hid (L.all okPart = (L.drop k).all okPart) ∧ wx = w2)
      case atStart => exact ⟨0, Nat.zero_le _, rfl, rfl, hid rfl, rfl⟩
      case round =>
        obtain ⟨m, hm, rfl, rfl, HA, rfl⟩ := hrel
        have m0 : (0 : Int) ≤ (m : Int) := Int.natCast_nonneg _
        by_cases hlm : m < L.length
        · have m1 : (m : Int) < (L.length : Int) := by omega
          have mw : IntKind.i64.wrap ((m : Int) + 1) = (m : Int) + 1 := IntWalk.i64_in _ (by have := HLL.out; omega)
          obtain ⟨a, x, rfl, hc, hx⟩ := HS.out.strAt' (i := m) hlm
          have hd : L.drop m = x :: L.drop (m + 1) := by
            obtain ⟨q, e⟩ := List.getElem?_eq_some_iff.1 hx
            rw [List.drop_eq_getElem_cons q, e]
          have hX : L.all okPart = (okPart x && (L.drop (m + 1)).all okPart) := by rw [HA.out, hd]; rfl
          have H3 := PName_any x wr
          obtain ⟨y, hy⟩ : ∃ y, okPart x = y := ⟨_, rfl⟩
          rw [hy] at hX H3
          have H3 := hid H3
          unfold strV at H3
          cases y with
          | false =>
            have HF := hid (show Y = false by rw [HY.out, hX]; rfl)
            clear hd hx hX HA hy
            go_wp2_with (go_at_call 73; with_reducible refine H3.out.mono ?_; rintro e _ ⟨rfl, rfl⟩)
            go_ret
            exact ⟨by rw [HF.out]; rfl, HB.out⟩
          | true =>
            have HX2 := hid (show L.all okPart = (L.drop (m + 1)).all okPart by rw [hX, Bool.true_and])
            clear hd hx hX HA hy
            go_wp2_with (go_at_call 73; with_reducible refine H3.out.mono ?_; rintro e _ ⟨rfl, rfl⟩)
            go_roundg (L.length - (m + 1))
            case measure => omega
            case rel => exact ⟨m + 1, by omega, rfl, by go_num, HX2, rfl⟩
        · obtain rfl : m = L.length := by omega
          have hneg2 : ¬ (L.length : Int) < (L.length : Int) := by omega
          have HF := hid (show Y = true by rw [HY.out, HA.out, List.drop_length]; rfl)
          go_wp2_with fail
          go_ret
          exact ⟨by rw [HF.out]; rfl, HB.out⟩
  · have p2 : decide (100 < (p.length : Int)) = true := decide_eq_true (by omega)
    have p4 : decide (100 < p.length) = true := decide_eq_true (by omega)
    have HY := hid (show Y = false by rw [hr, decide_eq_false hn]; rfl)
    clear hr hn
    go_enter Tryz.func49, Tryz.ntmps49
    go_wp2_with fail
    go_ret
    exact ⟨by rw [HY.out]; rfl, Below.refl _ _⟩
end
end Go.Proofs.YtndmblelkeepjaaGreatDoor
