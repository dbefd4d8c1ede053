/-
  DiffFirst: what both lists begin with is kept first, and the rest is as for the rests.
-/
import Derived.Test.YtiieomikpcjihaaDifAw
import Derived.Test.YtiieomikpcjihaaEdB
import Derived.Test.YtiieomikpcjihaaOpenS
import Derived.ProofKit
import Derived.OpenShut
namespace Go.Proofs.Ytiieomikpcjihaa.diffFirst
open Go.ChangeShapes Go.WideShapes Go.ChangeAt Go.RowKit

section
set_option maxRecDepth 100000
set_option maxHeartbeats 4000000
theorem walk_big (vl va vb : Value) (l a b : List (List UInt8)) (w : World) (hl : FactStrs w vl l) (ha : FactStrs w va a) (hb : FactStrs w vb b) (hle : 30 < l.length ∨ 30 < a.length ∨ 30 < b.length) :
    Calls Try.prog 7 #[vl, va, vb] w fun e w' => e = .returned (.bool true) ∧ Below w.heap.size w w' := by
  obtain ⟨s0, _, _⟩ := hl
  obtain ⟨s1, _, _⟩ := ha
  obtain ⟨s2, _, _⟩ := hb
  obtain ⟨a0, c0, rfl⟩ := s0.form
  obtain ⟨a1, c1, rfl⟩ := s1.form
  obtain ⟨a2, c2, rfl⟩ := s2.form
  rw [strCells_length, strCells_length, strCells_length]
  have hl' : (30 : Int) < (l.length : Int) ∨ (¬ (30 : Int) < (l.length : Int) ∧ (30 : Int) < (a.length : Int)) ∨ (¬ (30 : Int) < (l.length : Int) ∧ ¬ (30 : Int) < (a.length : Int) ∧ (30 : Int) < (b.length : Int)) := by omega
  clear hle
  rcases hl' with h1 | ⟨h1, h2⟩ | ⟨h1, h2, h3⟩
  all_goals
    go_enter Try.func7, Try.ntmps7
    go_wp2_with fail
    refine (awake_any w).mono ?_
    rintro e w1 ⟨rfl, hb1⟩
    go_wp2
    go_ret
    exact ⟨rfl, hb1⟩

theorem walk_at (vl va vb : Value) (l a b : List (List UInt8)) (w : World) (hl : FactStrs w vl l) (ha : FactStrs w va a) (hb : FactStrs w vb b) (hll : l.length ≤ 30) (hal : a.length ≤ 30) (hbl : b.length ≤ 30) :
    Calls Try.prog 7 #[vl, va, vb] w fun e w' => e = .returned (.bool true) ∧ Below w.heap.size w w' := by
  obtain ⟨s0, _, _⟩ := hl
  obtain ⟨s1, _, _⟩ := ha
  obtain ⟨s2, _, _⟩ := hb
  obtain ⟨a0, c0, rfl⟩ := s0.form
  obtain ⟨a1, c1, rfl⟩ := s1.form
  obtain ⟨a2, c2, rfl⟩ := s2.form
  rw [strCells_length] at s0 s1 s2 ⊢
  rw [strCells_length, strCells_length]
  have HS0 := hid s0
  have HS1 := hid s1
  have HS2 := hid s2
  obtain ⟨n, hn⟩ : ∃ n, l.length = n := ⟨_, rfl⟩
  obtain ⟨p, hp⟩ : ∃ p, a.length = p := ⟨_, rfl⟩
  obtain ⟨q, hq⟩ : ∃ q, b.length = q := ⟨_, rfl⟩
  have hg0 : ¬ (30 : Int) < (n : Int) := by omega
  have hg1 : ¬ (30 : Int) < (p : Int) := by omega
  have hg2 : ¬ (30 : Int) < (q : Int) := by omega
  have HN := hid hn
  have HP := hid hp
  have HQ := hid hq
  rw [hn] at hll s0 ⊢
  rw [hp] at hal s1 ⊢
  rw [hq] at hbl s2 ⊢
  clear hn hp hq
  go_enter Try.func7, Try.ntmps7
  go_wp2_with (first
    | (refine wpList_append_ss rfl (.const (.slice none 0 0)) (.tmp 25) rfl w.heap.size _ [] l rfl (World.ownsRow_nil _ _ _ _) _ rfl s0 (by simp; have := HN.out; omega) (Nat.le_refl _) ?_; intro v1 w1 ho1 hb1; have hz1 := hb1.size; have s1w1 := Sl.old s1 hb1)
    | (refine wpList_append_ss rfl (.tmp 26) (.tmp 27) rfl w.heap.size v1 ([] ++ l) a rfl ho1 _ rfl s1w1 (by simp; have := HN.out; have := HP.out; omega) hz1 ?_; intro v2 w2 ho2 hb2; have hb2 := hb1.trans hb2; have hz2 := hb2.size; have s0w2 := Sl.old s0 hb2; have s2w2 := Sl.old s2 hb2)
    | (refine wpList_append_ss rfl (.const (.slice none 0 0)) (.tmp 29) rfl w2.heap.size _ [] l rfl (World.ownsRow_nil _ _ _ _) _ rfl s0w2 (by simp; have := HN.out; omega) (Nat.le_refl _) ?_; intro v3 w3 ho3 hb3; have hz3 := hb3.size; have s2w3 := Sl.old s2w2 hb3)
    | (refine wpList_append_ss rfl (.tmp 30) (.tmp 31) rfl w2.heap.size v3 ([] ++ l) b rfl ho3 _ rfl s2w3 (by simp; have := HN.out; have := HQ.out; omega) hz3 ?_; intro v4 w4 ho4 hb4; have hb4 := hb3.trans hb4))
  have sx := Sl.old (Sl.ofOwns ho2) hb4
  have sy := Sl.ofOwns ho4
  rw [List.nil_append] at sx sy
  obtain ⟨xx, hxx⟩ : ∃ xx, l ++ a = xx := ⟨_, rfl⟩
  obtain ⟨yy, hyy⟩ : ∃ yy, l ++ b = yy := ⟨_, rfl⟩
  rw [hxx] at sx
  rw [hyy] at sy
  have hxl : xx.length = n + p := by rw [← hxx, List.length_append, HN.out, HP.out]
  have hyl : yy.length = n + q := by rw [← hyy, List.length_append, HN.out, HQ.out]
  obtain ⟨es, hes⟩ : ∃ es, scriptS a b = es := ⟨_, rfl⟩
  obtain ⟨E, hE⟩ : ∃ E, (l.map fun x => ((1 : Int), x)) ++ es = E := ⟨_, rfl⟩
  have hsc : scriptS xx yy = E := by rw [← hxx, ← hyy, scriptS_prefix, hes, hE]
  have hll : lcs xx yy = n + lcs a b := by rw [← hxx, ← hyy, lcs_prefix, HN.out]
  have hle := (lcs_le a b).1
  rw [HP.out] at hle
  have hel : E.length = n + es.length := by rw [← hE, List.length_append, List.length_map, HN.out]
  have hed : E.drop n = es := by rw [← hE]; exact List.drop_left' (by rw [List.length_map, HN.out])
  have hat : ∀ (k : Nat) x, l[k]? = some x → E[k]? = some (1, x) := fun k x hk => by
    rw [← hE, List.getElem?_append_left (by rw [List.length_map]; exact (List.getElem?_eq_some_iff.1 hk).1), List.getElem?_map, hk]
    rfl
  have hss : es.length ≤ 60 := by
    have := (goS_sides a b).2.2.1
    rw [← scriptS_short (by rw [HP.out]; omega) (by rw [HQ.out]; omega), hes, HP.out, HQ.out] at this
    omega
  obtain ⟨ax, cx, hfx⟩ := sx.form
  obtain ⟨ay, cy, hfy⟩ := sy.form
  subst hfx
  subst hfy
  have hb4 := below_step hb2 hb4 hz2
  have hz4 := hb4.size
  have HXL := hid hxl
  have HYL := hid hyl
  have HES := hid hes
  have HSC := hid hsc
  have HLL := hid hll
  have HED := hid hed
  have HAT := hid hat
  obtain ⟨c, hcc⟩ : ∃ c, lcs a b = c := ⟨_, rfl⟩
  have HCC := hid hcc
  rw [hcc] at hle
  obtain ⟨m, hm⟩ : ∃ m, es.length = m := ⟨_, rfl⟩
  rw [hm] at hel hss
  have HM := hid hm
  have HEL := hid hel
  clear hxx hyy hxl hyl hes hE hsc hll hed hat hcc hm hel ho1 ho2 ho3 ho4 hb1 hb2 hb3 hz1 hz2 hz3 s1w1 s0w2 s2w2 s2w3 s0 s1 s2
  go_wp2_with fail
  have hA := DScript_any _ _ xx yy w4 sx sy (by rw [HXL.out]; omega) (by rw [HYL.out]; omega)
  rw [HSC.out] at hA
  have HA := hid hA
  clear hA
  refine HA.out.mono ?_
  rintro e w5 ⟨u, rfl, hu, hb5⟩
  have hu := hu.slE
  obtain ⟨au, cu, hf⟩ := hu.form
  rw [HEL.out] at hf
  subst hf
  have sx := Sl.old sx hb5
  have sy := Sl.old sy hb5
  have hb5 := below_step hb4 hb5 hz4
  have hz5 := hb5.size
  have hnl : ¬ ((n + m : Nat) : Int) < (n : Int) := by omega
  have HU := hid hu
  have HSX := hid sx
  have HSY := hid sy
  have HB5 := hid hb5
  clear hu sx sy HA hb4 hz4 hb5
  go_wp2_with fail
  go_loopg [10] n (fun g i wr => ∃ k : Nat, k ≤ n ∧ g = n - k ∧ i = .int .i64 k ∧ Hid (Below w5.heap.size w5 wr))
  case atStart => exact ⟨0, Nat.zero_le _, rfl, rfl, hid (Below.refl _ _)⟩
  case round =>
    obtain ⟨k, hk, rfl, rfl, HB6⟩ := hrel
    have kw : IntKind.i64.wrap ((k : Int) + 1) = (k : Int) + 1 := IntWalk.i64_in _ (by omega)
    have k0 : (0 : Int) ≤ (k : Int) := Int.natCast_nonneg _
    have hb6 := below_step HB5.out HB6.out HB5.out.size
    have hz6 := hb6.size
    by_cases hlt : k < n
    · have k1 : (k : Int) < (n : Int) := by omega
      have k2 : (k : Int) < ((n + m : Nat) : Int) := by omega
      obtain ⟨bb, bo, kk, xx', rfl, hc1, hc2, hx⟩ := (SlE.old HU.out HB6.out).at' (i := k) (by rw [HEL.out]; omega)
      obtain ⟨a3, y, rfl, hcy, hy⟩ := (Sl.old HS0.out hb6).strAt' (i := k) (by rw [HN.out]; exact hlt)
      obtain ⟨rfl, rfl⟩ : kk = 1 ∧ xx' = y := by
        rw [HAT.out k y hy] at hx
        simpa using hx.symm
      clear hx hy
      go_wp2_with fail
      go_quiet (fail)
      have HB7 := hid (below_step HB6.out (below_drewN wr nq) HB6.out.size)
      generalize wr.drewN nq = wq at HB7 ⊢
      clear hc1 hc2 hcy
      go_wp2
      go_roundg (n - (k + 1))
      case measure => omega
      case rel => exact ⟨k + 1, by omega, rfl, rfl, HB7⟩
    · obtain rfl : k = n := by omega
      obtain ⟨i0, hi0, hi1, hi2, hi3⟩ := info_parts Try.infoEd
      have hs := SlE.old HU.out HB6.out
      obtain ⟨ad, cs, hsl, hss2⟩ := run_slice_edits (P := Try.prog) 23 29 Try.underlying23 hi0 hi2 hs k (by rw [HEL.out]; omega)
      rw [HED.out] at hss2
      rw [show E.length - k = m by rw [HEL.out]; omega] at hsl hss2
      have SA := Sl.old HS1.out hb6
      have SB := Sl.old HS2.out hb6
      rw [HP.out] at SA
      rw [HQ.out] at SB
      have SX := Sl.old HSX.out HB6.out
      have SY := Sl.old HSY.out HB6.out
      have HScr := hid (show ∀ wy, Below wr.heap.size wr wy → Calls Try.prog 14 #[.slice a1 p c1, .slice a2 q c2] wy fun e w' => ∃ ao cap, e = .returned (.slice ao m cap) ∧ SlE w' (.slice ao m cap) es ∧ Below wr.heap.size wr w' from fun wy hb => by
        have hA := DScript_any _ _ a b wy (Sl.old SA hb) (Sl.old SB hb) (by rw [HP.out]; omega) (by rw [HQ.out]; omega)
        rw [HES.out] at hA
        refine hA.mono ?_
        rintro e w' ⟨v, rfl, hv, hb'⟩
        have hv := hv.slE
        obtain ⟨ao, cap, hf⟩ := hv.form
        rw [HM.out] at hf
        subst hf
        exact ⟨ao, cap, rfl, hv, below_step hb hb' hb.size⟩)
      have HPl := hid (show ∀ wy ao cap, Below wr.heap.size wr wy → SlE wy (.slice ao m cap) es → Calls Try.prog 13 #[.slice ad m cs, .slice ao m cap] wy fun e w' => e = .returned (.bool true) ∧ Below wr.heap.size wr w' from fun wy ao cap hb hv => by
        have hA := EPlain_any _ _ es es wy (SlE.old hss2 hb) hv (by rw [HM.out]; unfold maxLen; omega)
        rw [show (es == es) = true by simp] at hA
        exact hA.mono fun e w' h => ⟨h.1, below_step hb h.2 hb.size⟩)
      have HCx := hid (show ∀ wy, Below wr.heap.size wr wy → Calls Try.prog 11 #[.slice ax (strCells xx).length cx, .slice ay (strCells yy).length cy] wy fun e w' => e = .returned (.int .i64 (k + c : Nat)) ∧ Below wr.heap.size wr w' from fun wy hb => by
        have hA := DCommon_any _ _ xx yy wy (Sl.old SX hb) (Sl.old SY hb) (by rw [HXL.out]; omega) (by rw [HYL.out]; omega)
        rw [HLL.out, HCC.out] at hA
        exact hA.mono fun e w' h => ⟨h.1, below_step hb h.2 hb.size⟩)
      have HCa := hid (show ∀ wy, Below wr.heap.size wr wy → Calls Try.prog 11 #[.slice a1 p c1, .slice a2 q c2] wy fun e w' => e = .returned (.int .i64 (c : Nat)) ∧ Below wr.heap.size wr w' from fun wy hb => by
        have hA := DCommon_any _ _ a b wy (Sl.old SA hb) (Sl.old SB hb) (by rw [HP.out]; omega) (by rw [HQ.out]; omega)
        rw [HCC.out] at hA
        exact hA.mono fun e w' h => ⟨h.1, below_step hb h.2 hb.size⟩)
      have hwc : IntKind.i64.wrap ((k : Int) + (c : Int)) = ((k + c : Nat) : Int) := (IntWalk.i64_in _ (by omega)).trans (by omega)
      have hqc : (((k + c : Nat) : Int) == ((k + c : Nat) : Int)) = true := by simp
      have hbd : Below wr.heap.size wr wr.drew := ⟨rfl, rfl, rfl, Nat.le_refl _, fun _ _ => rfl⟩
      obtain ⟨kc, hkc⟩ : ∃ kc, k + c = kc := ⟨_, rfl⟩
      rw [hkc] at HCx hwc hqc
      clear hlt kw hss2 SA SB SX SY hs hi0 hi1 hi2 hi3 hle hkc
      go_wp2_with fail
      go_region_held3 (fun _ => True) (trivial) ((first
        | (go_at_call 9; with_reducible refine (awake_any _).mono ?_; rintro e w6 ⟨rfl, hb7⟩; have hb7 := below_step hbd hb7 hbd.size)
        | (go_at_call 14; with_reducible refine (HScr.out _ hb7).mono ?_; rintro e w7 ⟨ao7, cap7, rfl, h7, hb8⟩)
        | (go_at_call 13; with_reducible refine (HPl.out _ _ _ hb8 h7).mono ?_; rintro e w8 ⟨rfl, hb9⟩)
        | (go_at_call 11; with_reducible refine (HCx.out _ hb9).mono ?_; rintro e w9 ⟨rfl, hb10⟩)
        | (go_at_call 11; with_reducible refine (HCa.out _ hb10).mono ?_; rintro e w10 ⟨rfl, hb11⟩)))
      have hb12 := below_step hb6 hb11 hz6
      go_wp2
      go_ret
      exact ⟨rfl, hb12⟩

theorem walk (vl : Value) (l : List (List UInt8)) (va : Value) (a : List (List UInt8)) (vb : Value) (b : List (List UInt8)) (w : World) (hl : FactStrs w vl l) (ha : FactStrs w va a) (hb : FactStrs w vb b) :
    Calls Try.prog 7 #[vl, va, vb] w fun e w' => e = .returned (.bool true) ∧ Below w.heap.size w w' := by
  by_cases h : 30 < l.length ∨ 30 < a.length ∨ 30 < b.length
  · exact walk_big vl va vb l a b w hl ha hb h
  · exact walk_at vl va vb l a b w hl ha hb (by omega) (by omega) (by omega)
end

theorem own : ownKnob Try.prog.godebug = none := by kernel_rfl
theorem laidOut : laidOutB Try.prog = true := by kernel_rfl

theorem contract (H : Type) (enc : TypeId × Value → H) (W : World) (base : Nat) (args : Array Value) (ds gs : List (DataW H)) (before : List MemPlace)
    (hval : ∀ (j : Nat) t v, Try.f7.params[j]? = some t → args[j]? = some v → Value.okWide Try.prog W .any base t v)
    (hW : DataW.Whole enc Try.prog Try.f7.params.toList Rows.diffFirstSpec.vars false W args.toList ds gs before) :
    Calls Try.prog 7 args W fun e W' => ∃ v, e = .returned v ∧ Rows.diffFirstSpec.post enc Try.prog Try.f7 false true false false W args v W' := by
  have hW' := hW
  obtain ⟨p, q, hA0, hV, rfl, hfz, hnd⟩ := hW
  have hA : DataW.TrodAll enc Try.prog W 0 (fun _ => true) true Try.f7.params.toList args.toList ds p := hA0
  rw [Try.params7] at hA hval
  obtain ⟨v0, vs0, d0, ds0, p0, q0, hargs, rfl, rfl, h0, r0⟩ := trodAll_cons hA
  obtain ⟨v1, vs1, d1, ds1, p1, q1, rfl, rfl, rfl, h1, r1⟩ := trodAll_cons r0
  obtain ⟨v2, vs2, d2, ds2, p2, q2, rfl, rfl, rfl, h2, r2⟩ := trodAll_cons r1
  obtain ⟨rfl, rfl, rfl⟩ := trodAll_nil r2
  obtain rfl : args = #[v0, v1, v2] := by cases args; simp_all
  obtain ⟨rfl, rfl⟩ := trodVars_none hV
  have k0 := h0
  have lt0 : ∀ x ∈ p0, x.block < W.heap.size := by obtain ⟨m, hm⟩ := k0; exact DataW.trod_lt m _ _ _ hm
  obtain ⟨x0, l0, c0, rfl⟩ := okWide_slice Try.underlying22 (hval 0 22 v0 rfl rfl)
  obtain ⟨a0, w0, e0⟩ : ∃ a, FactStrs W (.slice x0 l0 c0) a ∧ ((d0 = .nil ∧ a = []) ∨ ∃ rest, d0 = .slice (dataStrs a) rest) := by
    obtain ⟨fuel, hf⟩ := h0
    obtain ⟨v', a, hcs, hs, hx⟩ := open_strL Try.underlying22 Try.underlying9 (by kernel_rfl) hf
    obtain rfl : v' = .slice x0 l0 c0 := by simpa [Value.cells] using hcs.symm
    exact ⟨a, hs, hx⟩
  clear e0
  have k1 := h1
  have lt1 : ∀ x ∈ p1, x.block < W.heap.size := by obtain ⟨m, hm⟩ := k1; exact DataW.trod_lt m _ _ _ hm
  obtain ⟨x1, l1, c1, rfl⟩ := okWide_slice Try.underlying22 (hval 1 22 v1 rfl rfl)
  obtain ⟨a1, w1, e1⟩ : ∃ a, FactStrs W (.slice x1 l1 c1) a ∧ ((d1 = .nil ∧ a = []) ∨ ∃ rest, d1 = .slice (dataStrs a) rest) := by
    obtain ⟨fuel, hf⟩ := h1
    obtain ⟨v', a, hcs, hs, hx⟩ := open_strL Try.underlying22 Try.underlying9 (by kernel_rfl) hf
    obtain rfl : v' = .slice x1 l1 c1 := by simpa [Value.cells] using hcs.symm
    exact ⟨a, hs, hx⟩
  clear e1
  have k2 := h2
  have lt2 : ∀ x ∈ p2, x.block < W.heap.size := by obtain ⟨m, hm⟩ := k2; exact DataW.trod_lt m _ _ _ hm
  obtain ⟨x2, l2, c2, rfl⟩ := okWide_slice Try.underlying22 (hval 2 22 v2 rfl rfl)
  obtain ⟨a2, w2, e2⟩ : ∃ a, FactStrs W (.slice x2 l2 c2) a ∧ ((d2 = .nil ∧ a = []) ∨ ∃ rest, d2 = .slice (dataStrs a) rest) := by
    obtain ⟨fuel, hf⟩ := h2
    obtain ⟨v', a, hcs, hs, hx⟩ := open_strL Try.underlying22 Try.underlying9 (by kernel_rfl) hf
    obtain rfl : v' = .slice x2 l2 c2 := by simpa [Value.cells] using hcs.symm
    exact ⟨a, hs, hx⟩
  clear e2
  clear hA0
  refine (walk (.slice x0 l0 c0) a0 (.slice x1 l1 c1) a1 (.slice x2 l2 c2) a2 W w0 w1 w2).mono fun e W' ⟨he, bel⟩ => ?_
  subst he
  exact ⟨_, rfl, _, _, _, [], _, [], hW', trodAll_mk1 (shut_bool Try.underlying4 _), (trodAll_cons_mk (Below.trod laidOut (by kernel_rfl) (of_decide_eq_true (by kernel_rfl)) k0 bel lt0) (trodAll_cons_mk (Below.trod laidOut (by kernel_rfl) (of_decide_eq_true (by kernel_rfl)) k1 bel lt1) (trodAll_cons_mk (Below.trod laidOut (by kernel_rfl) (of_decide_eq_true (by kernel_rfl)) k2 bel lt2) trodAll_mk0))), rfl, bel.frame _, fun h => by cases h⟩

set_option maxRecDepth 100000 in
theorem lifted (os : Os) (started : os.Started) (H : Type) (enc : TypeId × Value → H) :
    ReturnsInHanded {} Try.checked os 7 .any (Rows.diffFirstSpec.pre6 enc Try.prog Try.f7 Rows.diffFirstRow.domain false) (Rows.diffFirstSpec.post enc Try.prog Try.f7 false true false false) := by
  refine returnsInHanded_of_change (C := Try.checked) own started (by kernel_rfl) Try.func7
    (ChangeSpec.witness6 (enc := enc) (C := Try.checked) false ⟨#[], #[.slice none 0 0, .slice none 0 0, .slice none 0 0], []⟩ 8 (by kernel_rfl) (by kernel_rfl) (by kernel_rfl) (by kernel_rfl)) ?_
  intro W base args ds gs before hval hW _ _
  exact contract H enc W base args ds gs before hval hW

theorem over : Rows.diffFirstRow.holds Try.pinned (OpenSpec.ofChange Rows.diffFirstSpec) :=
  OpenClaim.holds_of_wide 7 Try.f7 rfl rfl rfl rfl rfl rfl rfl ⟨rfl, rfl, rfl, rfl, rfl⟩ rfl rfl rfl rfl rfl (by kernel_rfl) Try.func7 (by kernel_rfl)
    (of_decide_eq_true (by kernel_rfl)) (by unfold Func.isWrapper; first | (rw [if_pos (by decide +kernel)]; kernel_rfl) | (rw [if_neg (by decide +kernel)]; exact ⟨rfl, rfl⟩))
    (fun os started H enc _ => lifted os started H enc)

/-- The statement. -/
theorem proved : Rows.DiffFirstSaid :=
  over
#print axioms proved
end Go.Proofs.Ytiieomikpcjihaa.diffFirst
