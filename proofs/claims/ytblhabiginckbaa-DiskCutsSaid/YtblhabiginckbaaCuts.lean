/-
  DiskCuts: for every two texts of bytes, every count and either choice, what is cut stays cut, behind a crash, too, and what is appended behind it stands there. No condition.
-/
import Derived.Test.YtblhabiginckbaaDskV
import Derived.Test.YtblhabiginckbaaOpen
namespace Go.Proofs.Ytblhabiginckbaa.diskCuts
open Go.ChangeShapes Go.WideShapes Go.ChangeAt Go.RowKit

theorem mod_nat (a : Int) (q : Nat) (hq : 0 < q) (hq' : q < 1000000) : ∃ m : Nat, wrap64 ((IntKind.u64.wrap a).tmod (q : Int)) = (m : Int) ∧ m < q := by
  have h0 : 0 ≤ IntKind.u64.wrap a := by simp only [IntKind.wrap_u64]; omega
  generalize IntKind.u64.wrap a = x at h0
  obtain ⟨x, rfl⟩ := Int.eq_ofNat_of_zero_le h0
  have hx := Nat.mod_lt x hq
  have e : (x : Int).tmod (q : Int) = ((x % q : Nat) : Int) := by rw [Int.tmod_eq_emod_of_nonneg (by omega)]; omega
  exact ⟨x % q, by rw [e]; exact IntWalk.wrap64_in _ (by omega), hx⟩

set_option maxRecDepth 1000000 in
set_option maxHeartbeats 4000000 in
theorem walk (va : Value) (a : List UInt8) (vb : Value) (b : List UInt8) (a2 : Int) (a3 : Bool) (w : World) (fa : FactBytes w va a) (fb : FactBytes w vb b) (_w2 : (Lit.int .i64 a2).wf = true) :
    Calls Try.prog 7 #[va, vb, .int .i64 a2, .bool a3] w fun e w' => e = .returned (.bool true) ∧ Below w.heap.size w w' := by
  obtain ⟨sa, la⟩ := fa
  obtain ⟨sb, lb⟩ := fb
  unfold maxLen at la lb
  obtain ⟨oa, ca, rfl⟩ := sa.form
  obtain ⟨ob, cb, rfl⟩ := sb.form
  rw [Lib.byteCells_length] at sa sb ⊢
  rw [Lib.byteCells_length]
  by_cases h1 : 200 < a.length
  · have i2 : (200 : Int) < (a.length : Int) := by omega
    go_enter Try.func7, Try.ntmps7
    go_wp2_with fail
    refine (awake_any w).mono ?_
    rintro e w2 ⟨rfl, hb2⟩
    go_wp2
    go_ret
    exact ⟨rfl, hb2⟩
  · by_cases h2 : 200 < b.length
    · have i2 : (a.length : Int) ≤ 200 := by omega
      have i3 : (200 : Int) < (b.length : Int) := by omega
      go_enter Try.func7, Try.ntmps7
      go_wp2_with fail
      refine (awake_any w).mono ?_
      rintro e w2 ⟨rfl, hb2⟩
      go_wp2
      go_ret
      exact ⟨rfl, hb2⟩
    · have i2 : (a.length : Int) ≤ 200 := by omega
      have i3 : (b.length : Int) ≤ 200 := by omega
      obtain ⟨n, hn, hna⟩ := mod_nat a2 (a.length + 1) (by omega) (by omega)
      rw [show ((a.length + 1 : Nat) : Int) = (a.length : Int) + 1 by omega] at hn
      have hnl : n ≤ a.length := by omega
      obtain ⟨p, hp⟩ : ∃ p, p = a.take n := ⟨_, rfl⟩
      have hpl : p.length = n := by rw [hp, List.length_take]; omega
      have hmin : min a.length n = n := by omega
      have A1 := hid (show (FF 0 []).askAppend 0 a.length = 0 ∧ (FF 0 []).append 0 a = FF 0 a from FF_append 0 [] a (by simp; omega))
      have A2 := hid (show (FF a.length a).askCut 0 (n : Int) = 0 ∧ (FF a.length a).cut 0 (n : Int) = FF n p by rw [(FF_cut a.length a n hnl).1, (FF_cut a.length a n hnl).2, hmin, hp]; exact ⟨rfl, rfl⟩)
      have A3 := hid (FF_append n p b (by omega))
      have hcap := sa.cap'
      have j0 : (0 : Int) ≤ (n : Int) := Int.natCast_nonneg _
      have j1 : (n : Int) ≤ (ca : Int) := by omega
      have scut : Sl w (.slice oa n ca) (Lib.byteCells p) := by
        have := sa.cutTo n (by rw [Lib.byteCells_length]; exact hnl)
        rw [hp, byteCells_take']
        exact this
      have hsl := fun wx => run_slice_head oa a.length ca n (by omega) wx
      have HSC := hid scut
      have HSA := hid sa
      have HSB := hid sb
      have HPL := hid hpl
      have R1 := hid (show (FF n (p ++ b)).restart = FF n p by rw [FF_restart _ _ (by rw [List.length_append]; omega), ← hpl, List.take_left])
      have R2 := hid (show (FF (p ++ b).length (p ++ b)).restart = FF (p ++ b).length (p ++ b) by rw [FF_restart _ _ (Nat.le_refl _), List.take_length])
      have HFR := hid (show ∀ s, (((FF s (p ++ b)).free : Nat) : Int) = 1000 - (n : Int) - (b.length : Int) by intro s; rw [FF_free, List.length_append]; omega)
      clear sa sb h1 h2 scut hpl hp hmin
      cases a3
      · go_enter Try.func7, Try.ntmps7
        go_wp2_with fail
        rw [hn]
        refine (New_ok 1000 w w (Below.refl _ _)).mono ?_
        rw [FF_new]
        rintro e w1 ⟨rfl, v0, v1, h1, _⟩
        clear hn
        go_wp2_with fail
        refine (Append_ok 0 a h1 (HSA.out.old' h1.below)).mono ?_
        rw [A1.out.1, A1.out.2]
        rintro e w2 ⟨rfl, x0, x1, h2, _⟩
        clear h1
        go_wp2_with fail
        refine (Sync_ok 0 h2).mono ?_
        rw [FF_ask, FF_sync]
        rintro e w3 ⟨rfl, y0, y1, h3, _⟩
        clear h2
        go_wp2_with fail
        refine (Cut_ok 0 (n : Int) h3).mono ?_
        rw [A2.out.1, A2.out.2]
        rintro e w4 ⟨rfl, z0, z1, h4, _⟩
        clear h3
        go_wp2_with fail
        refine (Append_ok 0 b h4 (HSB.out.old' h4.below)).mono ?_
        rw [A3.out.1, A3.out.2]
        rintro e w5 ⟨rfl, t0, t1, h5, _⟩
        clear h4
        go_wp2_with fail
        refine (Read_ok 0 h5).mono ?_
        rw [FF_ask, FF_read]
        rintro e w6 ⟨v6, rfl, hown6, h6, _⟩
        have s6 := Sl.ofOwns hown6
        obtain ⟨a6, c6, hv6⟩ := owns_form hown6
        subst hv6
        clear hown6 h5
        go_wp2_with fail
        refine (Restart_ok h6).mono ?_
        rw [R1.out]
        rintro e w7 ⟨rfl, r0, r1, h7, _, hb7⟩
        have d7 := h6.on hb7
        have s7 := s6.old' hb7
        clear h6 s6 hb7
        go_wp2_with fail
        refine (Read_ok 0 h7).mono ?_
        rw [FF_ask, FF_read]
        rintro e w8 ⟨v8, rfl, hown8, _, hb8⟩
        have d8 := d7.on hb8
        have s8 := s7.old' hb8
        have q8 := Sl.ofOwns hown8
        obtain ⟨a8, c8, hv8⟩ := owns_form hown8
        subst hv8
        clear hown8 h7 d7 s7 hb8
        go_wp2_with fail
        refine (awake_any w8).mono ?_
        rintro e w10 ⟨rfl, hb10⟩
        have d10 := d8.on hb10
        have s10 := s8.old' hb10
        have q10 := q8.old' hb10
        have t10 := HSC.out.old' d10.below
        clear hb10 d8 s8 q8
        have g1 : p.length ≤ 70368744177664 := by rw [HPL.out]; omega
        have g2 : p.length + b.length ≤ 70368744177664 := by rw [HPL.out]; omega
        have sc10 := HSC.out.old' d10.below
        have sb10 := HSB.out.old' d10.below
        go_wp2_with (first
          | (at_builtin; refine wpList_append_u8n (by rfl) (.tmp 86) rfl _ p rfl sc10 g1 ?_; intro p1 q1 m1 own1 bel1)
          | (at_builtin; refine wpList_append_u8 (by rfl) (.tmp 87) (.tmp 88) rfl w10.heap.size _ p rfl own1 _ b rfl (sb10.old' bel1) g2 bel1.size ?_; intro p2 q2 m2 own2 bel2))
        have hbm : Below w10.heap.size w10 m2 := bel1.trans bel2
        have d11 := d10.on hbm
        have s11 := s10.old' hbm
        have q11 := q10.old' hbm
        have t11 := t10.old' hbm
        have sw := Sl.ofOwns own2
        clear own1 own2 bel1 bel2 hbm d10 s10 q10 t10 sc10 sb10
        rw [List.length_append] at s11
        refine (Bytes_any _ _ (p ++ b) (p ++ b) m2 s11 sw).mono ?_
        rw [show ((p ++ b) == (p ++ b)) = true from by simp]
        rintro e w' ⟨rfl, rfl⟩
        clear s11 sw
        go_wp2_with fail
        refine (Bytes_any _ _ p p m2 q11 t11).mono ?_
        rw [show (p == p) = true from by simp]
        rintro e w' ⟨rfl, rfl⟩
        clear q11 t11
        go_wp2_with fail
        refine (Free_ok d11).mono ?_
        rw [HFR.out]
        rintro e w12 ⟨rfl, d12, _⟩
        have hbel := d12.below
        clear d12 d11
        go_wp2
        go_ret
        exact ⟨rfl, hbel⟩
      · go_enter Try.func7, Try.ntmps7
        go_wp2_with fail
        rw [hn]
        refine (New_ok 1000 w w (Below.refl _ _)).mono ?_
        rw [FF_new]
        rintro e w1 ⟨rfl, v0, v1, h1, _⟩
        clear hn
        go_wp2_with fail
        refine (Append_ok 0 a h1 (HSA.out.old' h1.below)).mono ?_
        rw [A1.out.1, A1.out.2]
        rintro e w2 ⟨rfl, x0, x1, h2, _⟩
        clear h1
        go_wp2_with fail
        refine (Sync_ok 0 h2).mono ?_
        rw [FF_ask, FF_sync]
        rintro e w3 ⟨rfl, y0, y1, h3, _⟩
        clear h2
        go_wp2_with fail
        refine (Cut_ok 0 (n : Int) h3).mono ?_
        rw [A2.out.1, A2.out.2]
        rintro e w4 ⟨rfl, z0, z1, h4, _⟩
        clear h3
        go_wp2_with fail
        refine (Append_ok 0 b h4 (HSB.out.old' h4.below)).mono ?_
        rw [A3.out.1, A3.out.2]
        rintro e w5 ⟨rfl, t0, t1, h5, _⟩
        clear h4
        go_wp2_with fail
        refine (Sync_ok 0 h5).mono ?_
        rw [FF_ask, FF_sync]
        rintro e w5s ⟨rfl, t2, t3, h5s, _⟩
        clear h5
        go_wp2_with fail
        refine (Read_ok 0 h5s).mono ?_
        rw [FF_ask, FF_read]
        rintro e w6 ⟨v6, rfl, hown6, h6, _⟩
        have s6 := Sl.ofOwns hown6
        obtain ⟨a6, c6, hv6⟩ := owns_form hown6
        subst hv6
        clear hown6 h5s
        go_wp2_with fail
        refine (Restart_ok h6).mono ?_
        rw [R2.out]
        rintro e w7 ⟨rfl, r0, r1, h7, _, hb7⟩
        have d7 := h6.on hb7
        have s7 := s6.old' hb7
        clear h6 s6 hb7
        go_wp2_with fail
        refine (Read_ok 0 h7).mono ?_
        rw [FF_ask, FF_read]
        rintro e w8 ⟨v8, rfl, hown8, _, hb8⟩
        have d8 := d7.on hb8
        have s8 := s7.old' hb8
        have q8 := Sl.ofOwns hown8
        obtain ⟨a8, c8, hv8⟩ := owns_form hown8
        subst hv8
        clear hown8 h7 d7 s7 hb8
        have f1 : p.length ≤ 70368744177664 := by rw [HPL.out]; omega
        have f2 : p.length + b.length ≤ 70368744177664 := by rw [HPL.out]; omega
        have sc8 := HSC.out.old' d8.below
        have sb8 := HSB.out.old' d8.below
        go_wp2_with (first
          | (at_builtin; refine wpList_append_u8n (by rfl) (.tmp 69) rfl _ p rfl sc8 f1 ?_; intro p3 q3 m3 own3 bel3)
          | (at_builtin; refine wpList_append_u8 (by rfl) (.tmp 70) (.tmp 71) rfl w8.heap.size _ p rfl own3 _ b rfl (sb8.old' bel3) f2 bel3.size ?_; intro p4 q4 m4 own4 bel4))
        have hbm4 : Below w8.heap.size w8 m4 := bel3.trans bel4
        have d9 := d8.on hbm4
        have s9 := s8.old' hbm4
        have q9 := q8.old' hbm4
        have t9 := Sl.ofOwns own4
        clear own3 own4 bel3 bel4 hbm4 d8 s8 q8 sc8 sb8 f1 f2
        refine (awake_any m4).mono ?_
        rintro e w10 ⟨rfl, hb10⟩
        have d10 := d9.on hb10
        have s10 := s9.old' hb10
        have q10 := q9.old' hb10
        have t10 := t9.old' hb10
        clear hb10 d9 s9 q9 t9
        have g1 : p.length ≤ 70368744177664 := by rw [HPL.out]; omega
        have g2 : p.length + b.length ≤ 70368744177664 := by rw [HPL.out]; omega
        have sc10 := HSC.out.old' d10.below
        have sb10 := HSB.out.old' d10.below
        go_wp2_with (first
          | (at_builtin; refine wpList_append_u8n (by rfl) (.tmp 86) rfl _ p rfl sc10 g1 ?_; intro p1 q1 m1 own1 bel1)
          | (at_builtin; refine wpList_append_u8 (by rfl) (.tmp 87) (.tmp 88) rfl w10.heap.size _ p rfl own1 _ b rfl (sb10.old' bel1) g2 bel1.size ?_; intro p2 q2 m2 own2 bel2))
        have hbm : Below w10.heap.size w10 m2 := bel1.trans bel2
        have d11 := d10.on hbm
        have s11 := s10.old' hbm
        have q11 := q10.old' hbm
        have t11 := t10.old' hbm
        have sw := Sl.ofOwns own2
        clear own1 own2 bel1 bel2 hbm d10 s10 q10 t10 sc10 sb10
        rw [List.length_append] at s11
        refine (Bytes_any _ _ (p ++ b) (p ++ b) m2 s11 sw).mono ?_
        rw [show ((p ++ b) == (p ++ b)) = true from by simp]
        rintro e w' ⟨rfl, rfl⟩
        clear s11 sw
        go_wp2_with fail
        rw [List.length_append] at q11
        refine (Bytes_any _ _ (p ++ b) (p ++ b) m2 q11 t11).mono ?_
        rw [show ((p ++ b) == (p ++ b)) = true from by simp]
        rintro e w' ⟨rfl, rfl⟩
        clear q11 t11
        go_wp2_with fail
        refine (Free_ok d11).mono ?_
        rw [HFR.out]
        rintro e w12 ⟨rfl, d12, _⟩
        have hbel := d12.below
        clear d12 d11
        go_wp2
        go_ret
        exact ⟨rfl, hbel⟩

theorem own : ownKnob Try.prog.godebug = none := by kernel_rfl
theorem laidOut : laidOutB Try.prog = true := by kernel_rfl

set_option maxRecDepth 100000 in
theorem lifted (os : Os) (started : os.Started) (H : Type) (enc : TypeId × Value → H) :
    ReturnsInHanded {} Try.checked os 7 .any (Rows.diskCutsSpec.pre6 enc Try.prog Try.f7 Rows.diskCutsRow.domain false) (Rows.diskCutsSpec.post enc Try.prog Try.f7 false true false false) := by
  refine returnsInHanded_of_change (C := Try.checked) own started (by kernel_rfl) Try.func7
    (ChangeSpec.witness6 (enc := enc) (C := Try.checked) false ⟨#[], #[.slice none 0 0, .slice none 0 0, .int .i64 0, .bool false], []⟩ 8 (by kernel_rfl) (by kernel_rfl) (by kernel_rfl) (by kernel_rfl)) ?_
  intro W base args ds gs before hval0 hW hcnd _
  have hval : ∀ (j : Nat) t v, Try.f7.params[j]? = some t → args[j]? = some v → Value.okWide Try.prog W .any base t v := hval0
  have hW' := hW
  obtain ⟨p, q, hA0, hV, rfl, hfz, hnd⟩ := hW
  have hA : DataW.TrodAll enc Try.prog W 0 (fun _ => true) true Try.f7.params.toList args.toList ds p := hA0
  rw [Try.params7] at hA hval
  obtain ⟨v0, vs0, d0, ds0, p0, q0, hargs, rfl, rfl, h0, r0⟩ := trodAll_cons hA
  obtain ⟨v1, vs1, d1, ds1, p1, q1, rfl, rfl, rfl, h1, r1⟩ := trodAll_cons r0
  obtain ⟨v2, vs2, d2, ds2, p2, q2, rfl, rfl, rfl, h2, r2⟩ := trodAll_cons r1
  obtain ⟨v3, vs3, d3, ds3, p3, q3, rfl, rfl, rfl, h3, r3⟩ := trodAll_cons r2
  obtain ⟨rfl, rfl, rfl⟩ := trodAll_nil r3
  obtain rfl : args = #[v0, v1, v2, v3] := by cases args; simp_all
  obtain ⟨rfl, rfl⟩ := trodVars_none hV
  have k0 := h0
  have lt0 : ∀ x ∈ p0, x.block < W.heap.size := by obtain ⟨m, hm⟩ := k0; exact DataW.trod_lt m _ _ _ hm
  obtain ⟨x0, l0, c0, rfl⟩ := okWide_slice Try.underlying28 (hval 0 28 v0 rfl rfl)
  obtain ⟨a0, w0⟩ : ∃ a, FactBytes W (.slice x0 l0 c0) a := by
    obtain ⟨fuel, hf⟩ := h0
    obtain ⟨v', a, hcs, hs⟩ := open_bytes Try.underlying28 Try.underlying5 (by kernel_rfl) hf
    obtain rfl : v' = .slice x0 l0 c0 := by simpa [Value.cells] using hcs.symm
    exact ⟨a, hs⟩
  have k1 := h1
  have lt1 : ∀ x ∈ p1, x.block < W.heap.size := by obtain ⟨m, hm⟩ := k1; exact DataW.trod_lt m _ _ _ hm
  obtain ⟨x1, l1, c1, rfl⟩ := okWide_slice Try.underlying28 (hval 1 28 v1 rfl rfl)
  obtain ⟨a1, w1⟩ : ∃ a, FactBytes W (.slice x1 l1 c1) a := by
    obtain ⟨fuel, hf⟩ := h1
    obtain ⟨v', a, hcs, hs⟩ := open_bytes Try.underlying28 Try.underlying5 (by kernel_rfl) hf
    obtain rfl : v' = .slice x1 l1 c1 := by simpa [Value.cells] using hcs.symm
    exact ⟨a, hs⟩
  have k2 := h2
  have lt2 : ∀ x ∈ p2, x.block < W.heap.size := by obtain ⟨m, hm⟩ := k2; exact DataW.trod_lt m _ _ _ hm
  obtain ⟨a2, rfl, _, _, w2⟩ := open_int Try.underlying3 (hval 2 3 v2 rfl rfl) h2
  have k3 := h3
  have lt3 : ∀ x ∈ p3, x.block < W.heap.size := by obtain ⟨m, hm⟩ := k3; exact DataW.trod_lt m _ _ _ hm
  obtain ⟨a3, rfl, _, _⟩ := open_bool Try.underlying4 (hval 3 4 v3 rfl rfl) h3
  clear hA0 hval0
  refine (walk (.slice x0 l0 c0) a0 (.slice x1 l1 c1) a1 a2 a3 W w0 w1 w2).mono fun e W' ⟨he, bel⟩ => ?_
  subst he
  exact ⟨_, rfl, _, _, _, [], _, [], hW', trodAll_mk1 (shut_bool Try.underlying4 _), (trodAll_cons_mk (Below.trod laidOut (by kernel_rfl) (of_decide_eq_true (by kernel_rfl)) k0 bel lt0) (trodAll_cons_mk (Below.trod laidOut (by kernel_rfl) (of_decide_eq_true (by kernel_rfl)) k1 bel lt1) (trodAll_cons_mk (Below.trod laidOut (by kernel_rfl) (of_decide_eq_true (by kernel_rfl)) k2 bel lt2) (trodAll_cons_mk (Below.trod laidOut (by kernel_rfl) (of_decide_eq_true (by kernel_rfl)) k3 bel lt3) trodAll_mk0)))), rfl, bel.frame _, fun h => by cases h⟩

theorem over : Rows.diskCutsRow.holds Try.pinned (OpenSpec.ofChange Rows.diskCutsSpec) :=
  OpenClaim.holds_of_wide 7 Try.f7 rfl rfl rfl rfl rfl rfl rfl ⟨rfl, rfl, rfl, rfl, rfl⟩ rfl rfl rfl rfl rfl (by kernel_rfl) Try.func7 (by kernel_rfl)
    (of_decide_eq_true (by kernel_rfl)) (by unfold Func.isWrapper; first | (rw [if_pos (by decide +kernel)]; kernel_rfl) | (rw [if_neg (by decide +kernel)]; exact ⟨rfl, rfl⟩))
    (fun os started H enc _ => lifted os started H enc)

/-- The statement. -/
theorem proved : Rows.DiskCutsSaid :=
  over
#print axioms proved
