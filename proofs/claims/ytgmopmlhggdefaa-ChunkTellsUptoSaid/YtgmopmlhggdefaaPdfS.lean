/-
  Script.
-/
import Derived.Test.YtgmopmlhggdefaaPdfW
namespace Go.Proofs.Ytgmopmlhggdefaa
open Go.RowKit

section
set_option maxRecDepth 100000
set_option maxHeartbeats 4000000
theorem DScript_any (va vb : Value) (a b : List (List UInt8)) (w : World) (ha : Sl w va (strCells a)) (hb : Sl w vb (strCells b)) (hal : a.length ≤ 1000000) (hbl : b.length ≤ 1000000) :
    Calls Try.prog 40 #[va, vb] w fun e w' => ∃ l, e = .returned l ∧ OwnE w' w.heap.size l (scriptS a b) ∧ Below w.heap.size w w' := by
  obtain ⟨aa, ca, rfl⟩ := ha.form
  obtain ⟨ab, cb, rfl⟩ := hb.form
  have HAl := hid (DAlike_any _ _ a b w ha hb hal)
  rw [strCells_length] at ha hb HAl ⊢
  rw [strCells_length] at HAl ⊢
  have HA := hid ha
  have HB := hid hb
  have HL := hid (And.intro hal hbl)
  clear ha hb
  go_enter Try.func40, Try.ntmps40
  go_wp2_with fail
  refine HAl.out.mono ?_
  rintro e w1 ⟨k, rfl, ⟨hka, hkb, hE, hmax⟩, hb1⟩
  have HS := hid (script_behind hE hmax)
  obtain ⟨ho, tc, rt, ht⟩ := cutS_to HA.out k hka
  obtain ⟨fo, fc, rf, hf⟩ := cutS_from HA.out k hka
  obtain ⟨so, sc, rs, hs⟩ := cutS_from HB.out k hkb
  have k0 : (0 : Int) ≤ (k : Int) := Int.natCast_nonneg _
  have k1 : (k : Int) ≤ (a.length : Int) := by omega
  have k2 : (k : Int) ≤ (b.length : Int) := by omega
  obtain ⟨E, hEE⟩ : ∃ E, (a.take k).map (fun x => ((1 : Int), x)) = E := ⟨_, rfl⟩
  obtain ⟨c, hc⟩ : ∃ c, a.drop k = c := ⟨_, rfl⟩
  obtain ⟨d, hd⟩ : ∃ d, b.drop k = d := ⟨_, rfl⟩
  obtain ⟨p, hp⟩ : ∃ p, a.length - k = p := ⟨_, rfl⟩
  obtain ⟨q, hq⟩ : ∃ q, b.length - k = q := ⟨_, rfl⟩
  have HCP := hid (show c.length = p by rw [← hc, List.length_drop]; exact hp)
  have HDQ := hid (show d.length = q by rw [← hd, List.length_drop]; exact hq)
  have HEL := hid (show E.length ≤ 1000000 by rw [← hEE, List.length_map, List.length_take]; omega)
  have HPQ := hid (show p ≤ 1000000 ∧ q ≤ 1000000 by omega)
  rw [hEE, hc, hd] at HS
  rw [hc, hp] at hf
  rw [hd, hq] at hs
  rw [hp] at rf
  rw [hq] at rs
  have HTK := hid ht
  have HC := hid hf
  have HD := hid hs
  have H1 := hid (DAdd_any w (.slice none 0 0) _ [] 1 (a.take k) w1 (OwnE.nil _ _) ht hb1 (by rw [List.length_take]; simp; omega) 0 0 w (Nat.zero_le _) (Aside.none _ _ _))
  rw [hEE] at H1
  clear ht hf hs hE hmax hEE hc hd hp hq HAl hka hkb
  go_wp2_with (go_at_call 42; refine H1.out.mono ?_; rintro e w2 ⟨l2, rfl, hO2, hb2, hz2, hA2⟩; clear H1 hA2 hz2; have HO2 := hid hO2; clear hO2)
  go_quiet (fail)
  have hO3 := hid (HO2.out.drew nq)
  have hb3 : Below w.heap.size w (w2.drewN nq) := below_step hb2 (below_drewN _ _) hb2.size
  clear HO2 hb2
  generalize w2.drewN nq = w3 at hO3 hb3 ⊢
  rw [List.nil_append] at hO3
  by_cases hlong : 400 < p ∨ 400 < q
  · have HR := hid (show scriptS a b = E ++ ((c.map fun x => ((2 : Int), x)) ++ d.map fun x => ((3 : Int), x)) by
      rw [HS.out, restS, if_pos (show tooLong c d by unfold tooLong; rw [HCP.out, HDQ.out]; exact hlong)])
    have hsplit : (400 : Int) < (p : Int) ∨ (¬ (400 : Int) < (p : Int) ∧ (400 : Int) < (q : Int)) := by omega
    clear hlong HS
    have H2 := hid (DAdd_any w _ _ E 2 c w3 hO3.out HC.out hb3 (by have h1 := HEL.out; have h2 := HPQ.out.1; rw [HCP.out]; omega) 0 0 w (Nat.zero_le _) (Aside.none _ _ _))
    have HLD := hid (show (E ++ c.map fun x => ((2 : Int), x)).length + d.length ≤ 4000000 by have h1 := HEL.out; have h2 := HPQ.out; rw [List.length_append, List.length_map, HCP.out, HDQ.out]; omega)
    rcases hsplit with hs1 | ⟨hs1, hs2⟩
    all_goals
      go_wp2_with (first
        | (go_at_call 42; with_reducible refine H2.out.mono ?_; rintro e w5 ⟨l5, rfl, hO5, hb5, hz5, hA5⟩; clear H2)
        | (go_at_call 42; with_reducible refine (DAdd_any w l5 _ _ 3 d _ hO5 HD.out hb5 HLD.out 0 0 w (Nat.zero_le _) (Aside.none _ _ _)).mono ?_; rintro e w6 ⟨l6, rfl, hO6, hb6, hz6, hA6⟩))
      go_ret
      refine ⟨_, rfl, ?_, hb6⟩
      rw [HR.out, ← List.append_assoc]
      exact hO6
  · have HR := hid (show scriptS a b = E ++ goS c d by
      rw [HS.out, restS, if_neg (show ¬ tooLong c d by unfold tooLong; rw [HCP.out, HDQ.out]; exact hlong)])
    have hs1 : ¬ (400 : Int) < (p : Int) := by omega
    have hs2 : ¬ (400 : Int) < (q : Int) := by omega
    have H2 := hid (DWalk_any w _ _ _ E c d w3 hO3.out HC.out HD.out hb3 HEL.out (by rw [HCP.out]; omega) (by rw [HDQ.out]; omega))
    clear hlong HS
    go_wp2_with (go_at_call 43; refine H2.out.mono ?_; rintro e w6 ⟨l6, rfl, hO6, hb6⟩)
    go_ret
    refine ⟨_, rfl, ?_, hb6⟩
    rw [HR.out]
    exact hO6
end
end Go.Proofs.Ytgmopmlhggdefaa
