/-
  Script, Common and Distance.
-/
import Derived.Test.YtiieomikpcjihaaPdfA
import Derived.Test.YtiieomikpcjihaaPdfN
import Derived.Test.YtiieomikpcjihaaPdfW
import Derived.Test.YtiieomikpcjihaaRdfD
namespace Go.Proofs.Ytiieomikpcjihaa
open Go.RowKit

section
set_option maxRecDepth 100000
set_option maxHeartbeats 4000000
theorem DScript_any (va vb : Value) (a b : List (List UInt8)) (w : World) (ha : Sl w va (strCells a)) (hb : Sl w vb (strCells b)) (hal : a.length ≤ 1000000) (hbl : b.length ≤ 1000000) :
    Calls Try.prog 14 #[va, vb] w fun e w' => ∃ l, e = .returned l ∧ OwnE w' w.heap.size l (scriptS a b) ∧ Below w.heap.size w w' := by
  obtain ⟨aa, ca, rfl⟩ := ha.form
  obtain ⟨ab, cb, rfl⟩ := hb.form
  have HAl := hid (DAlike_any _ _ a b w ha hb hal)
  rw [strCells_length] at ha hb HAl ⊢
  rw [strCells_length] at HAl ⊢
  have HA := hid ha
  have HB := hid hb
  have HL := hid (And.intro hal hbl)
  clear ha hb
  go_enter Try.func14, Try.ntmps14
  go_wp2_with fail
  refine HAl.out.mono ?_
  rintro e w1 ⟨k, rfl, ⟨hka, hkb, hE, hmax⟩, hb1⟩
  have HS := hid (script_behind hE hmax)
  obtain ⟨ho, tc, rt, ht⟩ := cutS_to HA.out k hka
  obtain ⟨fo, fc, rf, hf⟩ := cutS_from HA.out k hka
  obtain ⟨so, sc, rs, hs⟩ := cutS_from HB.out k hkb
  have k0 : (0 : Int) ≤ (k : Int) := Int.natCast_nonneg _
  have k1 : (k : Int) ≤ (a.length : Int) := by omega
  have k2 : (k : Int) ≤ (b.length : Int) := by omega
  obtain ⟨E, hEE⟩ : ∃ E, (a.take k).map (fun x => ((1 : Int), x)) = E := ⟨_, rfl⟩
  obtain ⟨c, hc⟩ : ∃ c, a.drop k = c := ⟨_, rfl⟩
  obtain ⟨d, hd⟩ : ∃ d, b.drop k = d := ⟨_, rfl⟩
  obtain ⟨p, hp⟩ : ∃ p, a.length - k = p := ⟨_, rfl⟩
  obtain ⟨q, hq⟩ : ∃ q, b.length - k = q := ⟨_, rfl⟩
  have HCP := hid (show c.length = p by rw [← hc, List.length_drop]; exact hp)
  have HDQ := hid (show d.length = q by rw [← hd, List.length_drop]; exact hq)
  have HEL := hid (show E.length ≤ 1000000 by rw [← hEE, List.length_map, List.length_take]; omega)
  have HPQ := hid (show p ≤ 1000000 ∧ q ≤ 1000000 by omega)
  rw [hEE, hc, hd] at HS
  rw [hc, hp] at hf
  rw [hd, hq] at hs
  rw [hp] at rf
  rw [hq] at rs
  have HTK := hid ht
  have HC := hid hf
  have HD := hid hs
  have H1 := hid (DAdd_any w (.slice none 0 0) _ [] 1 (a.take k) w1 (OwnE.nil _ _) ht hb1 (by rw [List.length_take]; simp; omega) 0 0 w (Nat.zero_le _) (Aside.none _ _ _))
  rw [hEE] at H1
  clear ht hf hs hE hmax hEE hc hd hp hq HAl hka hkb
  go_wp2_with (go_at_call 31; refine H1.out.mono ?_; rintro e w2 ⟨l2, rfl, hO2, hb2, hz2, hA2⟩; clear H1 hA2 hz2; have HO2 := hid hO2; clear hO2)
  go_quiet (fail)
  have hO3 := hid (HO2.out.drew nq)
  have hb3 : Below w.heap.size w (w2.drewN nq) := below_step hb2 (below_drewN _ _) hb2.size
  clear HO2 hb2
  generalize w2.drewN nq = w3 at hO3 hb3 ⊢
  rw [List.nil_append] at hO3
  by_cases hlong : 400 < p ∨ 400 < q
  · have HR := hid (show scriptS a b = E ++ ((c.map fun x => ((2 : Int), x)) ++ d.map fun x => ((3 : Int), x)) by
      rw [HS.out, restS, if_pos (show tooLong c d by unfold tooLong; rw [HCP.out, HDQ.out]; exact hlong)])
    have hsplit : (400 : Int) < (p : Int) ∨ (¬ (400 : Int) < (p : Int) ∧ (400 : Int) < (q : Int)) := by omega
    clear hlong HS
    have H2 := hid (DAdd_any w _ _ E 2 c w3 hO3.out HC.out hb3 (by have h1 := HEL.out; have h2 := HPQ.out.1; rw [HCP.out]; omega) 0 0 w (Nat.zero_le _) (Aside.none _ _ _))
    have HLD := hid (show (E ++ c.map fun x => ((2 : Int), x)).length + d.length ≤ 4000000 by have h1 := HEL.out; have h2 := HPQ.out; rw [List.length_append, List.length_map, HCP.out, HDQ.out]; omega)
    rcases hsplit with hs1 | ⟨hs1, hs2⟩
    all_goals
      go_wp2_with (first
        | (go_at_call 31; with_reducible refine H2.out.mono ?_; rintro e w5 ⟨l5, rfl, hO5, hb5, hz5, hA5⟩; clear H2)
        | (go_at_call 31; with_reducible refine (DAdd_any w l5 _ _ 3 d _ hO5 HD.out hb5 HLD.out 0 0 w (Nat.zero_le _) (Aside.none _ _ _)).mono ?_; rintro e w6 ⟨l6, rfl, hO6, hb6, hz6, hA6⟩))
      go_ret
      refine ⟨_, rfl, ?_, hb6⟩
      rw [HR.out, ← List.append_assoc]
      exact hO6
  · have HR := hid (show scriptS a b = E ++ goS c d by
      rw [HS.out, restS, if_neg (show ¬ tooLong c d by unfold tooLong; rw [HCP.out, HDQ.out]; exact hlong)])
    have hs1 : ¬ (400 : Int) < (p : Int) := by omega
    have hs2 : ¬ (400 : Int) < (q : Int) := by omega
    have H2 := hid (DWalk_any w _ _ _ E c d w3 hO3.out HC.out HD.out hb3 HEL.out (by rw [HCP.out]; omega) (by rw [HDQ.out]; omega))
    clear hlong HS
    go_wp2_with (go_at_call 32; refine H2.out.mono ?_; rintro e w6 ⟨l6, rfl, hO6, hb6⟩)
    go_ret
    refine ⟨_, rfl, ?_, hb6⟩
    rw [HR.out]
    exact hO6

theorem DCommon_any (va vb : Value) (a b : List (List UInt8)) (w : World) (ha : Sl w va (strCells a)) (hb : Sl w vb (strCells b)) (hal : a.length ≤ 1000000) (hbl : b.length ≤ 1000000) :
    Calls Try.prog 11 #[va, vb] w fun e w' => e = .returned (.int .i64 (lcs a b : Nat)) ∧ Below w.heap.size w w' := by
  obtain ⟨aa, ca, rfl⟩ := ha.form
  obtain ⟨ab, cb, rfl⟩ := hb.form
  have HAl := hid (DAlike_any _ _ a b w ha hb hal)
  rw [strCells_length] at ha hb HAl ⊢
  rw [strCells_length] at HAl ⊢
  have HA := hid ha
  have HB := hid hb
  clear ha hb
  go_enter Try.func11, Try.ntmps11
  go_wp2_with fail
  refine HAl.out.mono ?_
  rintro e w1 ⟨k, rfl, ⟨hka, hkb, hE, _⟩, hb1⟩
  obtain ⟨fo, fc, rf, hf⟩ := cutS_from HA.out k hka
  obtain ⟨so, sc, rs, hs⟩ := cutS_from HB.out k hkb
  have k0 : (0 : Int) ≤ (k : Int) := Int.natCast_nonneg _
  have k1 : (k : Int) ≤ (a.length : Int) := by omega
  have k2 : (k : Int) ≤ (b.length : Int) := by omega
  have hCORE := fun (t : Nat) => lcs_core (t := t) hE hka
  obtain ⟨c, hc⟩ : ∃ c, a.drop k = c := ⟨_, rfl⟩
  obtain ⟨d, hd⟩ : ∃ d, b.drop k = d := ⟨_, rfl⟩
  obtain ⟨p, hp⟩ : ∃ p, a.length - k = p := ⟨_, rfl⟩
  obtain ⟨q, hq⟩ : ∃ q, b.length - k = q := ⟨_, rfl⟩
  have hcp : c.length = p := by rw [← hc, List.length_drop]; exact hp
  have hdq : d.length = q := by rw [← hd, List.length_drop]; exact hq
  rw [hc, hd, hcp, hdq] at hCORE
  rw [hc, hp] at hf
  rw [hd, hq] at hs
  rw [hp] at rf
  rw [hq] at rs
  have HCORE := hid hCORE
  have HC := hid hf
  have HD := hid hs
  have HCP := hid hcp
  have HDQ := hid hdq
  have HPQ := hid (show p ≤ 1000000 ∧ q ≤ 1000000 ∧ k ≤ 1000000 by omega)
  clear hf hs hE hc hd hp hq HAl hka hkb hCORE hcp hdq hal hbl
  go_wp2_with fail
  go_quiet (fail)
  have hb3 : Below w.heap.size w (w1.drewN nq) := below_step hb1 (below_drewN _ _) hb1.size
  clear hb1
  generalize w1.drewN nq = w3 at hb3 ⊢
  have HT := hid (DTail_any _ _ c d w3 (Sl.old HC.out hb3) (Sl.old HD.out hb3) (by rw [HCP.out]; exact HPQ.out.1) (by rw [HDQ.out]; exact HPQ.out.2.1))
  rw [HCP.out, HDQ.out] at HT
  go_wp2_with (go_at_call 26; refine HT.out.mono ?_; rintro e w4 ⟨t, rfl, ⟨htp, htq, htE⟩, hb4⟩)
  have hb5 : Below w.heap.size w w4 := below_step hb3 hb4 hb3.size
  obtain ⟨m, hm⟩ : ∃ m, p - t = m := ⟨_, rfl⟩
  obtain ⟨n, hn⟩ : ∃ n, q - t = n := ⟨_, rfl⟩
  have hco := HCORE.out t htE htp
  rw [hm, hn] at hco
  have HCO := hid hco
  have t0 : (0 : Int) ≤ (t : Int) := Int.natCast_nonneg _
  have mw : IntKind.i64.wrap ((p : Int) - (t : Int)) = (m : Int) := (IntWalk.i64_in _ (by have := HPQ.out; omega)).trans (by omega)
  have nw : IntKind.i64.wrap ((q : Int) - (t : Int)) = (n : Int) := (IntWalk.i64_in _ (by have := HPQ.out; omega)).trans (by omega)
  obtain ⟨uo, uc, ru, hu⟩ := cutS_to HC.out m (by rw [HCP.out]; omega)
  obtain ⟨xo, xc, rx, hx⟩ := cutS_to HD.out n (by rw [HDQ.out]; omega)
  have HU := hid hu
  have HX := hid hx
  have HM := hid (show m ≤ 1000000 ∧ n ≤ 1000000 ∧ t ≤ 1000000 ∧ m ≤ p ∧ n ≤ q by have := HPQ.out; omega)
  have m0 : (0 : Int) ≤ (m : Int) := Int.natCast_nonneg _
  have n0 : (0 : Int) ≤ (n : Int) := Int.natCast_nonneg _
  clear hu hx hco htE hm hn hb4 hb3 HCORE HT
  go_wp2_with fail
  go_quiet (fail)
  have hb6 : Below w.heap.size w (w4.drewN nq) := below_step hb5 (below_drewN _ _) hb5.size
  clear hb5
  generalize w4.drewN nq = w6 at hb6 ⊢
  obtain ⟨C, hC⟩ : ∃ C, c.take m = C := ⟨_, rfl⟩
  obtain ⟨D, hD⟩ : ∃ D, d.take n = D := ⟨_, rfl⟩
  have HCL := hid (show C.length = m by rw [← hC, List.length_take, HCP.out, Nat.min_eq_left HM.out.2.2.2.1])
  have HDL := hid (show D.length = n by rw [← hD, List.length_take, HDQ.out, Nat.min_eq_left HM.out.2.2.2.2])
  rw [hC] at HU HCO
  rw [hD] at HX HCO
  have HBT := hid (DBetween_any _ _ C D w6 (Sl.old HU.out hb6) (Sl.old HX.out hb6) (by rw [HCL.out]; exact HM.out.1) (by rw [HDL.out]; exact HM.out.2.1))
  have hle := (lcs_le C D).1
  rw [HCL.out] at hle
  obtain ⟨V, hV⟩ : ∃ V, lcs C D = V := ⟨_, rfl⟩
  rw [hV] at hle HBT HCO
  have w1' : IntKind.i64.wrap ((k : Int) + (V : Int)) = (k : Int) + (V : Int) := IntWalk.i64_in _ (by have := HPQ.out; have := HM.out; omega)
  have w2' : IntKind.i64.wrap ((k : Int) + (V : Int) + (t : Int)) = (k : Int) + (V : Int) + (t : Int) := IntWalk.i64_in _ (by have := HPQ.out; have := HM.out; omega)
  clear hC hD hV hle
  go_wp2_with (go_at_call 27; refine HBT.out.mono ?_; rintro e w7 ⟨rfl, hb7⟩)
  go_ret
  refine ⟨?_, below_step hb6 hb7 hb6.size⟩
  rw [HCO.out]
  simp

theorem DDistance_any (va vb : Value) (a b : List (List UInt8)) (w : World) (ha : Sl w va (strCells a)) (hb : Sl w vb (strCells b)) (hal : a.length ≤ 1000000) (hbl : b.length ≤ 1000000) :
    Calls Try.prog 16 #[va, vb] w fun e w' => e = .returned (.int .i64 (distS (scriptS a b) : Nat)) ∧ Below w.heap.size w w' := by
  have hR := DScript_any va vb a b w ha hb hal hbl
  obtain ⟨es, hes⟩ : ∃ es, scriptS a b = es := ⟨_, rfl⟩
  rw [hes] at hR ⊢
  have HR := hid hR
  clear hR hes
  go_enter Try.func16, Try.ntmps16
  go_wp2_with fail
  refine HR.out.mono ?_
  rintro e w1 ⟨l, rfl, hO, hb1⟩
  have hle := hO.le
  have hS := hO.slE
  obtain ⟨ao, cap, rfl⟩ := hS.form
  have hL : es.length ≤ 9223372036854775807 := by unfold maxLen at hle; omega
  have HL := hid hL
  have hz1 := hb1.size
  clear hO hle hL
  go_wp2_with fail
  go_loopg [5, 12] es.length (fun g n i wr => ∃ k : Nat, k ≤ es.length ∧ g = es.length - k ∧ i = .int .i64 k ∧ n = .int .i64 (distS (es.take k) : Nat) ∧ Below w.heap.size w wr ∧ Below w1.heap.size w1 wr)
  case atStart => exact ⟨0, Nat.zero_le _, rfl, rfl, rfl, hb1, Below.refl _ _⟩
  case round =>
    obtain ⟨k, hk, rfl, rfl, rfl, hbel, hbel1⟩ := hrel
    have k0 : (0 : Int) ≤ (k : Int) := Int.natCast_nonneg _
    by_cases hlt : k < es.length
    · obtain ⟨b, o, c, x, rfl, hc, hd, he⟩ := (hS.old hbel1).at' (i := k) hlt
      have k1 : (k : Int) < (es.length : Int) := by omega
      have kw : IntKind.i64.wrap ((k : Int) + 1) = (k : Int) + 1 := IntWalk.i64_in _ (by have := HL.out; omega)
      have hs := distS_snoc es k _ he
      have hdl := distS_le (es.take k)
      rw [List.length_take] at hdl
      obtain ⟨D, hD⟩ : ∃ D, distS (es.take k) = D := ⟨_, rfl⟩
      rw [hD] at hs hdl ⊢
      have dw : IntKind.i64.wrap ((D : Int) + 1) = (D : Int) + 1 := IntWalk.i64_in _ (by have := HL.out; omega)
      by_cases h1 : c = 1
      · subst h1
        have HS := hid (show distS (es.take (k + 1)) = D by rw [hs, if_pos rfl])
        clear hs hD he hdl
        go_wp2
        go_roundg (es.length - (k + 1))
        case measure => omega
        case rel => exact ⟨k + 1, by omega, rfl, rfl, by rw [HS.out], hbel.alloc hbel.size _, hbel1.alloc hbel1.size _⟩
      · have hcn : (c != 1) = true := by simpa using h1
        have hc1 : (c == 1) = false := by simpa using h1
        have HS := hid (show distS (es.take (k + 1)) = D + 1 by rw [hs, if_neg h1])
        clear hs hD he hdl
        go_wp2
        go_roundg (es.length - (k + 1))
        case measure => omega
        case rel => exact ⟨k + 1, by omega, rfl, rfl, by rw [HS.out]; rfl, hbel.alloc hbel.size _, hbel1.alloc hbel1.size _⟩
    · obtain rfl : k = es.length := by omega
      have hneg : ¬ (es.length : Int) < (es.length : Int) := by omega
      rw [List.take_length]
      go_wp2
      go_ret
      exact ⟨rfl, hbel⟩
end
end Go.Proofs.Ytiieomikpcjihaa
