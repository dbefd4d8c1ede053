/-
  MergeTells: what any three texts come to, whether a text is plain, what any text is read as, or why not, and either side of that.
  By size alone it is false (twenty chunks may share one list that no memory holds twenty times): the second form is proved.
-/
import Derived.Test.YtfldheegebopoaaG3
import Derived.Test.YtfldheegebopoaaCkE
import Derived.Test.YtfldheegebopoaaCkO
import Derived.Test.YtfldheegebopoaaLit
import Derived.Test.YtfldheegebopoaaOpenS
import Derived.Test.YtfldheegebopoaaBulk
import Derived.ProofKit
import Derived.OpenShut
namespace Go.Proofs.Ytfldheegebopoaa.mergeTells
open Go.ChangeShapes Go.WideShapes Go.ChangeAt Go.RowKit

theorem pick_upto {q : Bool} {l : List CkS} {n : Nat} (h : ∀ c ∈ l, c.2.2.1.flatten.length ≤ n ∧ c.2.2.2.flatten.length ≤ n) : (pickS q l).length ≤ l.length * n := by
  induction l with
  | nil => simp [pickS]
  | cons c l ih =>
    have h1 := h c (List.mem_cons_self ..)
    have h2 := ih fun x hx => h x (List.mem_cons_of_mem _ hx)
    have e : pickS q (c :: l) = (if q then c.2.2.1 else c.2.2.2).flatten ++ pickS q l := by simp [pickS]
    rw [e, List.length_append, List.length_cons, Nat.succ_mul]
    split <;> omega
section
set_option maxRecDepth 100000
set_option maxHeartbeats 4000000
theorem walk (b o u s : Tx) (vl : Value) (l : List CkS) (q : Bool) (w : World) (_ : b.length ≤ maxLen) (_ : o.length ≤ maxLen) (_ : u.length ≤ maxLen) (_ : s.length ≤ maxLen) (hl : FactCks w vl l ∧ ∀ c ∈ l, c.2.1.flatten.length + c.2.1.length ≤ 1048576 ∧ c.2.2.1.flatten.length + c.2.2.1.length ≤ 1048576 ∧ c.2.2.2.flatten.length + c.2.2.2.length ≤ 1048576) (_ : b.length ≤ 1048576) (_ : o.length ≤ 1048576) (_ : u.length ≤ 1048576) (_ : s.length ≤ 1048576) :
    Calls Try.prog 3 #[strV b, strV o, strV u, strV s, vl, .bool q] w fun e w' => e = .returned (.bool true) ∧ Below w.heap.size w w' := by
  have hFEW := mfew_any _ [b, o, u, s] (w.alloc (.cells #[.string ⟨b.toArray⟩, .string ⟨o.toArray⟩, .string ⟨u.toArray⟩, .string ⟨s.toArray⟩] 9)) (litS [b, o, u, s] (heap_alloc_new w _)) (by simp)
  have hB0 : Below w.heap.size w (w.alloc (.cells #[.string ⟨b.toArray⟩, .string ⟨o.toArray⟩, .string ⟨u.toArray⟩, .string ⟨s.toArray⟩] 9)) := (Below.refl _ w).alloc (Nat.le_refl _) _
  obtain ⟨la, lc, rfl⟩ := hl.1.1.form
  have HL := hid hl.1.1
  have hbd := hl.2
  clear hl
  by_cases hf : b.length ≤ 400 ∧ o.length ≤ 400 ∧ u.length ≤ 400 ∧ s.length ≤ 400
  · rw [show ([b, o, u, s].all fun x => decide (x.length ≤ 400)) = true by simp [hf.1, hf.2.1, hf.2.2.1, hf.2.2.2]] at hFEW
    have HFEW := hid hFEW
    have HB0 := hid hB0
    by_cases h20 : l.length ≤ 20
    · have hl20 : ¬ (20 : Int) < (l.length : Int) := by omega
      have hl21 : decide (20 < (l.length : Int)) = false := decide_eq_false (by omega)
      have hl22 : decide (20 < l.length) = false := decide_eq_false (by omega)
      have HMG := hid (fun wx => DMerge_any b o u wx (by omega) (by omega) (by omega))
      have HMR := hid (fun wx => RMerge_any b o u wx (by omega) (by omega) (by omega))
      have HPD := hid (fun wx => DParse_any s wx (by omega))
      have HPR := hid (fun wx => RParse_any s wx (by omega))
      have HLD := hid (fun wx => DPlainT_any s wx (by omega))
      have HLR := hid (fun wx => RPlainT_any s wx (by omega))
      have hfew : ckFew l := fun c hc => by have := hbd c hc; omega
      have hpn : (pickL q l).length ≤ 1000000000000 := Nat.le_trans (pickL_len (n := 1048576) fun c hc => by have := hbd c hc; omega) (by omega)
      have hps : (pickS q l).length ≤ 1099511627776 := Nat.le_trans (pick_upto (n := 1048576) fun c hc => by have := hbd c hc; omega) (by omega)
      have HKD := hid (fun wx (h : SlC wx (.slice la l.length lc) l) => DPick_any _ l q wx h (by omega) hpn hps)
      have HKR := hid (fun wx (h : SlC wx (.slice la l.length lc) l) => RPick_any _ l q wx h (by omega) hfew (by omega))
      have HSL := hid (show s.length ≤ 400 from hf.2.2.2)
      obtain ⟨X, hX⟩ : ∃ X, (mergeS b o u).1 = X := ⟨_, rfl⟩
      obtain ⟨cl, hcl⟩ : ∃ cl, (mergeS b o u).2 = cl := ⟨_, rfl⟩
      rw [hX, hcl] at HMG HMR
      obtain ⟨L, hL⟩ : ∃ L, parseL s = L := ⟨_, rfl⟩
      obtain ⟨E, hE⟩ : ∃ E, parseE s = E := ⟨_, rfl⟩
      rw [hL, hE] at HPD HPR
      obtain ⟨pp, hpp⟩ : ∃ p, plainS s = p := ⟨_, rfl⟩
      rw [hpp] at HLD HLR
      obtain ⟨K, hK⟩ : ∃ K, pickS q l = K := ⟨_, rfl⟩
      rw [hK] at HKD HKR
      clear hf hFEW hB0 hbd h20 hfew hpn hps hX hcl hL hE hpp hK
      unfold strV at HMG HMR HPD HPR HLD HLR HKD HKR ⊢
      go_enter Try.func3, Try.ntmps3
      go_wp2_with (first
        | (go_at_call 8; refine HFEW.out.mono ?_; rintro e _ ⟨rfl, rfl⟩; clear HFEW
           have HL0 := hid (HL.out.old ((Below.refl _ w).alloc (Nat.le_refl _) (.cells #[.string ⟨b.toArray⟩, .string ⟨o.toArray⟩, .string ⟨u.toArray⟩, .string ⟨s.toArray⟩] 9))))
        | (go_at_call 10; with_reducible refine (HMG.out _).mono ?_; rintro e y1 ⟨rfl, hb1⟩; have HL1 := hid (HL0.out.old hb1); have HB1 := hid (below_step HB0.out hb1 HB0.out.size); clear hb1)
        | (go_at_call 11; with_reducible refine (HMR.out _).mono ?_; rintro e y2 ⟨rfl, hb2⟩; have HL2 := hid (HL1.out.old hb2); have HB2 := hid (below_step HB1.out hb2 HB1.out.size); clear hb2)
        | (go_at_call 12; with_reducible refine (HPD.out _).mono ?_; rintro e y3 ⟨u3, rfl, s3, cu3, ln3, hb3⟩
           obtain ⟨_, _, rfl⟩ := s3.form
           have HP3 := hid s3; have HC3 := hid (And.intro cu3 ln3); have HL3 := hid (HL2.out.old hb3); have HB3 := hid (below_step HB2.out hb3 HB2.out.size); clear s3 cu3 ln3 hb3)
        | (go_at_call 13; with_reducible refine (HPR.out _).mono ?_; rintro e y4 ⟨u4, rfl, s4, _, _, hb4⟩
           obtain ⟨_, _, rfl⟩ := s4.form
           have HQ4 := hid s4; have HP4 := hid (HP3.out.old hb4); have HL4 := hid (HL3.out.old hb4); have HB4 := hid (below_step HB3.out hb4 HB3.out.size); clear s4 hb4)
        | (go_at_call 9; refine (awake_any _).mono ?_; rintro e y5 ⟨rfl, hb5⟩
           have HQ5 := hid (HQ4.out.old hb5); have HP5 := hid (HP4.out.old hb5); have HL5 := hid (HL4.out.old hb5); have HB5 := hid (below_step HB4.out hb5 HB4.out.size); clear hb5)
        | (go_at_call 14; with_reducible refine (HLD.out _).mono ?_; rintro e y6 ⟨rfl, hb6⟩
           have HQ6 := hid (HQ5.out.old hb6); have HP6 := hid (HP5.out.old hb6); have HL6 := hid (HL5.out.old hb6); have HB6 := hid (below_step HB5.out hb6 HB5.out.size); clear hb6)
        | (go_at_call 15; with_reducible refine (HLR.out _).mono ?_; rintro e y7 ⟨rfl, hb7⟩
           have HQ7 := hid (HQ6.out.old hb7); have HP7 := hid (HP6.out.old hb7); have HL7 := hid (HL6.out.old hb7); have HB7 := hid (below_step HB6.out hb7 HB6.out.size); clear hb7)
        | (go_at_call 16; refine (CSame_at _ _ L L _ HP7.out HQ7.out (by have h1 := HC3.out.2; have h2 := HSL.out; unfold maxLen; omega) (fun c hc => by have h1 := HC3.out.1 c hc; have h2 := HSL.out; omega)).mono ?_; rintro e y8 ⟨rfl, hb8⟩
           rw [show (L == L) = true by simp]
           have HL8 := hid (HL7.out.old hb8); have HB8 := hid (below_step HB7.out hb8 HB7.out.size); clear hb8)
        | (go_at_call 18; with_reducible refine (HKD.out _ HL8.out).mono ?_; rintro e y9 ⟨rfl, hb9⟩
           have HL9 := hid (HL8.out.old hb9); have HB9 := hid (below_step HB8.out hb9 HB8.out.size); clear hb9)
        | (go_at_call 19; with_reducible refine (HKR.out _ HL9.out).mono ?_; rintro e _ ⟨rfl, rfl⟩))
      go_ret
      exact ⟨rfl, HB9.out⟩
    · have hl20 : (20 : Int) < (l.length : Int) := by omega
      have hl21 : decide (20 < (l.length : Int)) = true := decide_eq_true (by omega)
      have hl22 : decide (20 < l.length) = true := decide_eq_true (by omega)
      clear hf hFEW hB0 hbd h20
      unfold strV
      go_enter Try.func3, Try.ntmps3
      go_wp2_with (first
        | (go_at_call 8; refine HFEW.out.mono ?_; rintro e _ ⟨rfl, rfl⟩; clear HFEW)
        | (go_at_call 9; refine (awake_any _).mono ?_; rintro e y5 ⟨rfl, hb5⟩; have HB5 := hid (below_step HB0.out hb5 HB0.out.size); clear hb5))
      go_ret
      exact ⟨rfl, HB5.out⟩
  · rw [show ([b, o, u, s].all fun x => decide (x.length ≤ 400)) = false by simp; omega] at hFEW
    have HFEW := hid hFEW
    have HB0 := hid hB0
    clear hf hFEW hB0 hbd
    unfold strV
    go_enter Try.func3, Try.ntmps3
    go_wp2_with (first
      | (go_at_call 8; refine HFEW.out.mono ?_; rintro e _ ⟨rfl, rfl⟩; clear HFEW)
      | (go_at_call 9; refine (awake_any _).mono ?_; rintro e y5 ⟨rfl, hb5⟩; have HB5 := hid (below_step HB0.out hb5 HB0.out.size); clear hb5))
    go_ret
    exact ⟨rfl, HB5.out⟩
end
theorem own : ownKnob Try.prog.godebug = none := by kernel_rfl
theorem laidOut : laidOutB Try.prog = true := by kernel_rfl

set_option maxRecDepth 100000 in
theorem contract (H : Type) (enc : TypeId × Value → H) (W : World) (base : Nat) (args : Array Value) (ds gs : List (DataW H)) (before : List MemPlace)
    (hval : ∀ (j : Nat) t v, Try.f3.params[j]? = some t → args[j]? = some v → Value.okWide Try.prog W .any base t v)
    (hW : DataW.Whole enc Try.prog Try.f3.params.toList Rows.mergeTellsSpec.vars false W args.toList ds gs before) (hk : Rows.uptoSmall H (ds ++ gs) = true) :
    Calls Try.prog 3 args W fun e W' => ∃ v, e = .returned v ∧ Rows.mergeTellsSpec.post enc Try.prog Try.f3 false true false false W args v W' := by
  have hW' := hW
  obtain ⟨p, q, hA0, hV, rfl, hfz, hnd⟩ := hW
  have hA : DataW.TrodAll enc Try.prog W 0 (fun _ => true) true Try.f3.params.toList args.toList ds p := hA0
  rw [Try.params3] at hA hval
  obtain ⟨v0, vs0, d0, ds0, p0, q0, hargs, rfl, rfl, h0, r0⟩ := trodAll_cons hA
  obtain ⟨v1, vs1, d1, ds1, p1, q1, rfl, rfl, rfl, h1, r1⟩ := trodAll_cons r0
  obtain ⟨v2, vs2, d2, ds2, p2, q2, rfl, rfl, rfl, h2, r2⟩ := trodAll_cons r1
  obtain ⟨v3, vs3, d3, ds3, p3, q3, rfl, rfl, rfl, h3, r3⟩ := trodAll_cons r2
  obtain ⟨v4, vs4, d4, ds4, p4, q4, rfl, rfl, rfl, h4, r4⟩ := trodAll_cons r3
  obtain ⟨v5, vs5, d5, ds5, p5, q5, rfl, rfl, rfl, h5, r5⟩ := trodAll_cons r4
  obtain ⟨rfl, rfl, rfl⟩ := trodAll_nil r5
  obtain rfl : args = #[v0, v1, v2, v3, v4, v5] := by cases args; simp_all
  obtain ⟨rfl, rfl⟩ := trodVars_none hV
  have k0 := h0
  have lt0 : ∀ x ∈ p0, x.block < W.heap.size := by obtain ⟨m, hm⟩ := k0; exact DataW.trod_lt m _ _ _ hm
  obtain ⟨a0, rfl, rfl, _, w0⟩ := open_str Try.underlying9 (hval 0 9 v0 rfl rfl) h0
  have b0 := bulk_text hk (List.mem_append_left _ (by simp) : DataW.lit (.string a0) ∈ _)
  have k1 := h1
  have lt1 : ∀ x ∈ p1, x.block < W.heap.size := by obtain ⟨m, hm⟩ := k1; exact DataW.trod_lt m _ _ _ hm
  obtain ⟨a1, rfl, rfl, _, w1⟩ := open_str Try.underlying9 (hval 1 9 v1 rfl rfl) h1
  have b1 := bulk_text hk (List.mem_append_left _ (by simp) : DataW.lit (.string a1) ∈ _)
  have k2 := h2
  have lt2 : ∀ x ∈ p2, x.block < W.heap.size := by obtain ⟨m, hm⟩ := k2; exact DataW.trod_lt m _ _ _ hm
  obtain ⟨a2, rfl, rfl, _, w2⟩ := open_str Try.underlying9 (hval 2 9 v2 rfl rfl) h2
  have b2 := bulk_text hk (List.mem_append_left _ (by simp) : DataW.lit (.string a2) ∈ _)
  have k3 := h3
  have lt3 : ∀ x ∈ p3, x.block < W.heap.size := by obtain ⟨m, hm⟩ := k3; exact DataW.trod_lt m _ _ _ hm
  obtain ⟨a3, rfl, rfl, _, w3⟩ := open_str Try.underlying9 (hval 3 9 v3 rfl rfl) h3
  have b3 := bulk_text hk (List.mem_append_left _ (by simp) : DataW.lit (.string a3) ∈ _)
  have k4 := h4
  have lt4 : ∀ x ∈ p4, x.block < W.heap.size := by obtain ⟨m, hm⟩ := k4; exact DataW.trod_lt m _ _ _ hm
  obtain ⟨x4, l4, c4, rfl⟩ := okWide_slice Try.underlying22 (hval 4 22 v4 rfl rfl)
  obtain ⟨a4, w4⟩ : ∃ a, FactCks W (.slice x4 l4 c4) a ∧ ∀ c ∈ a, c.2.1.flatten.length + c.2.1.length ≤ 1048576 ∧ c.2.2.1.flatten.length + c.2.2.1.length ≤ 1048576 ∧ c.2.2.2.flatten.length + c.2.2.2.length ≤ 1048576 := by
    obtain ⟨fuel, hf⟩ := h4
    obtain ⟨v', a, hcs, hs, hx⟩ := open_cks hf
    obtain rfl : v' = .slice x4 l4 c4 := by simpa [Value.cells] using hcs.symm
    refine ⟨a, hs, fun q hq => ?_⟩
    have h1 : Rows.uptoBulk d4 ≤ 1048576 := Nat.le_trans (bulk_part (List.mem_append_left _ (by simp))) (bulk_bound hk)
    obtain ⟨g1, g2, g3⟩ := hx q hq
    dsimp only at g1 g2 g3
    omega
  have k5 := h5
  have lt5 : ∀ x ∈ p5, x.block < W.heap.size := by obtain ⟨m, hm⟩ := k5; exact DataW.trod_lt m _ _ _ hm
  obtain ⟨a5, rfl, _, _⟩ := open_bool Try.underlying4 (hval 5 4 v5 rfl rfl) h5
  clear hA0
  refine (walk a0 a1 a2 a3 (.slice x4 l4 c4) a4 a5 W w0 w1 w2 w3 w4 b0 b1 b2 b3).mono fun e W' ⟨he, bel⟩ => ?_
  subst he
  exact ⟨_, rfl, _, _, _, [], _, [], hW', trodAll_mk1 (shut_bool Try.underlying4 _), (trodAll_cons_mk (Below.trod laidOut (by kernel_rfl) (of_decide_eq_true (by kernel_rfl)) k0 bel lt0) (trodAll_cons_mk (Below.trod laidOut (by kernel_rfl) (of_decide_eq_true (by kernel_rfl)) k1 bel lt1) (trodAll_cons_mk (Below.trod laidOut (by kernel_rfl) (of_decide_eq_true (by kernel_rfl)) k2 bel lt2) (trodAll_cons_mk (Below.trod laidOut (by kernel_rfl) (of_decide_eq_true (by kernel_rfl)) k3 bel lt3) (trodAll_cons_mk (Below.trod laidOut (by kernel_rfl) (of_decide_eq_true (by kernel_rfl)) k4 bel lt4) (trodAll_cons_mk (Below.trod laidOut (by kernel_rfl) (of_decide_eq_true (by kernel_rfl)) k5 bel lt5) trodAll_mk0)))))), rfl, bel.frame _, fun h => by cases h⟩

set_option maxRecDepth 100000 in
theorem lifted (os : Os) (started : os.Started) (H : Type) (enc : TypeId × Value → H) (F : Stop.Interp) :
    ReturnsInHanded {} Try.checked os 3 .any ((Rows.OpenSpec.upto Rows.mergeTellsSpec).pre6 enc Try.prog Try.f3 Rows.mergeTellsUptoRow.domain false) (((Rows.OpenSpec.upto Rows.mergeTellsSpec).at F).post enc Try.prog Try.f3 false true false false) := by
  refine returnsInHanded_of_cond (C := Try.checked) (s := Rows.OpenSpec.upto Rows.mergeTellsSpec) (k := Rows.uptoSmall) rfl own started (by kernel_rfl) Try.func3
    (OpenSpec.witness (enc := enc) (C := Try.checked) (s := Rows.OpenSpec.upto Rows.mergeTellsSpec) (k := Rows.uptoSmall) rfl false ⟨#[], #[.string ByteArray.empty, .string ByteArray.empty, .string ByteArray.empty, .string ByteArray.empty, .slice none 0 0, .bool false], []⟩ 8 (by kernel_rfl) (by kernel_rfl) (by kernel_rfl)
      (x := ([.lit (.string []), .lit (.string []), .lit (.string []), .lit (.string []), .nil, .lit (.bool false)], [], [])) (by kernel_rfl) rfl (by kernel_rfl)) ?_
  intro W base args ds gs before hval hW _ hk _
  exact contract H enc W base args ds gs before hval hW hk

theorem over : Rows.mergeTellsUptoRow.holds Try.pinned (Rows.OpenSpec.upto Rows.mergeTellsSpec) :=
  OpenClaim.holds_of_cond 3 Try.f3 rfl rfl rfl rfl rfl rfl rfl ⟨rfl, rfl, rfl, rfl, rfl⟩ rfl rfl rfl rfl rfl (by kernel_rfl) Try.func3 (by kernel_rfl)
    (of_decide_eq_true (by kernel_rfl)) (by unfold Func.isWrapper; first | (rw [if_pos (by decide +kernel)]; kernel_rfl) | (rw [if_neg (by decide +kernel)]; exact ⟨rfl, rfl⟩))
    (fun os started H enc _ F => lifted os started H enc F)

/-- The statement. -/
theorem proved : Rows.MergeTellsUptoSaid :=
  over
#print axioms proved
end Go.Proofs.Ytfldheegebopoaa.mergeTells
