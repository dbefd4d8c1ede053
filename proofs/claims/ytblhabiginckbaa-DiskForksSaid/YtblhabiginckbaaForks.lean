/-
  DiskForks: for every two texts of bytes, what is done with a fork does not touch the disk it came from; what is read may be written into. No condition.
-/
import Derived.Test.YtblhabiginckbaaDskV
import Derived.Test.YtblhabiginckbaaOpen
namespace Go.Proofs.Ytblhabiginckbaa.diskForks
open Go.ChangeShapes Go.WideShapes Go.ChangeAt Go.RowKit

theorem row_head {w : World} {base : Nat} {v : Value} {l : List UInt8} (h : w.ownsRow base 5 1 v l.length (Lib.byteCells l)) (hl : 0 < l.length) :
    ∃ (g cap : Nat) (x : UInt8), v = .slice (some ⟨g, 0, none⟩) l.length cap ∧ base ≤ g ∧ w.cell? ⟨g, 0, none⟩ = some (.int .u8 (x.toNat : Int)) ∧ w.frozen? ⟨g, 0, none⟩ = false := by
  rcases h.2 with ⟨hv, hn⟩ | ⟨g, cap, cur, hv, hb, hg, hmc, hcm, hcs, htake⟩
  · omega
  · refine ⟨g, cap, l[0], hv, hb, ?_, blk_free hg⟩
    refine blk_cell hg ?_
    have h0 : (Lib.byteCells l)[0]? = some (.int .u8 ((l[0]).toNat : Int)) := by rw [Lib.byteCells, List.getElem?_map, List.getElem?_eq_getElem hl]; rfl
    rw [← htake, List.getElem?_take] at h0
    split at h0
    · simpa using h0
    · cases h0

set_option maxRecDepth 1000000 in
set_option maxHeartbeats 4000000 in
theorem walk (va : Value) (a : List UInt8) (vb : Value) (b : List UInt8) (w : World) (fa : FactBytes w va a) (fb : FactBytes w vb b) :
    Calls Try.prog 8 #[va, vb] w fun e w' => e = .returned (.bool true) ∧ Below w.heap.size w w' := by
  obtain ⟨sa, la⟩ := fa
  obtain ⟨sb, lb⟩ := fb
  unfold maxLen at la lb
  obtain ⟨oa, ca, rfl⟩ := sa.form
  obtain ⟨ob, cb, rfl⟩ := sb.form
  rw [Lib.byteCells_length] at sa sb ⊢
  rw [Lib.byteCells_length]
  by_cases h0 : a.length = 0
  · have i1 : ((a.length : Int) == 0) = true := by rw [h0]; rfl
    go_enter Try.func8, Try.ntmps8
    go_wp2_with fail
    refine (awake_any w).mono ?_
    rintro e w2 ⟨rfl, hb2⟩
    go_wp2
    go_ret
    exact ⟨rfl, hb2⟩
  · by_cases h1 : 200 < a.length
    · have i1 : ((a.length : Int) == 0) = false := beq_eq_false_iff_ne.2 (by omega)
      have i2 : (200 : Int) < (a.length : Int) := by omega
      go_enter Try.func8, Try.ntmps8
      go_wp2_with fail
      refine (awake_any w).mono ?_
      rintro e w2 ⟨rfl, hb2⟩
      go_wp2
      go_ret
      exact ⟨rfl, hb2⟩
    · by_cases h2 : 200 < b.length
      · have i1 : ((a.length : Int) == 0) = false := beq_eq_false_iff_ne.2 (by omega)
        have i2 : (a.length : Int) ≤ 200 := by omega
        have i3 : (200 : Int) < (b.length : Int) := by omega
        go_enter Try.func8, Try.ntmps8
        go_wp2_with fail
        refine (awake_any w).mono ?_
        rintro e w2 ⟨rfl, hb2⟩
        go_wp2
        go_ret
        exact ⟨rfl, hb2⟩
      · have i1 : ((a.length : Int) == 0) = false := beq_eq_false_iff_ne.2 (by omega)
        have i2 : (a.length : Int) ≤ 200 := by omega
        have i3 : (b.length : Int) ≤ 200 := by omega
        have A1 := hid (show (FF 0 []).askAppend 0 a.length = 0 ∧ (FF 0 []).append 0 a = FF 0 a from FF_append 0 [] a (by simp; omega))
        have A2 := hid (FF_append 0 a b (by omega))
        have HSA := hid sa
        have HSB := hid sb
        have HP := hid (show 0 < a.length by omega)
        clear sa sb h0 h1 h2
        go_enter Try.func8, Try.ntmps8
        go_wp2_with fail
        refine (New_ok 1000 w w (Below.refl _ _)).mono ?_
        rw [FF_new]
        rintro e w1 ⟨rfl, v0, v1, h1, _⟩
        go_wp2_with fail
        refine (Append_ok 0 a h1 (HSA.out.old' h1.below)).mono ?_
        rw [A1.out.1, A1.out.2]
        rintro e w2 ⟨rfl, x0, x1, h2, _⟩
        clear h1
        go_wp2_with fail
        refine (Fork_ok h2).mono ?_
        rintro e w3 ⟨rfl, y0, y1, h3, hf3, hb3⟩
        have d3 := h2.on hb3
        have hsep : ∀ j, feet w.heap.size x0 x1 j → ¬ feet w2.heap.size y0 y1 j := fun j e e' => by have := h2.at_.foot_lt e; have := hf3 j e'; omega
        clear h2 hf3 hb3
        go_wp2_with fail
        refine (Append_ok 0 b h3 (HSB.out.old' h3.below)).mono ?_
        rw [A2.out.1, A2.out.2]
        rintro e w4 ⟨rfl, z0, z1, h4, k4⟩
        have d4 := d3.beside k4 hsep h3.foot
        have hsep4 := k4.sep d3.at_ hsep
        clear h3 d3 hsep k4
        go_wp2_with fail
        refine (Sync_ok 0 h4).mono ?_
        rw [FF_ask, FF_sync]
        rintro e w5 ⟨rfl, t0, t1, h5, k5⟩
        have d5 := d4.beside k5 hsep4 h4.foot
        clear h4 d4 hsep4 k5
        go_wp2_with fail
        refine (Read_ok 0 d5).mono ?_
        rw [FF_ask, FF_read]
        rintro e w6 ⟨v6, rfl, hown, d6, hb6⟩
        have h6 := h5.on hb6
        obtain ⟨g, cg, x, hv6, hg, hc6, hf6⟩ := row_head hown HP.out
        subst hv6
        have hb7 : Below w5.heap.size w5 (w6.setCell ⟨g, 0, none⟩ (.int .u8 (bits .xor .u8 (x.toNat : Int) 1))) := hb6.setCell (p := ⟨g, 0, none⟩) hg _
        have d7 := d5.on hb7
        have h7 := h5.on hb7
        have HC := hid hc6
        have HF := hid hf6
        clear hown hb6 h6 d6 d5 h5 hg hb7 hc6 hf6
        have hc6 := HC.out
        have hf6 := HF.out
        go_wp2_with fail
        clear hc6 hf6
        refine (Read_ok 0 d7).mono ?_
        rw [FF_ask, FF_read]
        rintro e w8 ⟨v8, rfl, hown8, d8, hb8⟩
        have h8 := h7.on hb8
        have s8 := Sl.ofOwns hown8
        obtain ⟨a8, c8, hv8⟩ := owns_form hown8
        subst hv8
        clear hown8 d7 h7 hb8
        go_wp2_with fail
        refine (Read_ok 0 h8).mono ?_
        rw [FF_ask, FF_read]
        rintro e w9 ⟨v9, rfl, hown9, h9, hb9⟩
        have d9 := d8.on hb9
        have s8' := s8.old' hb9
        have s9 := Sl.ofOwns hown9
        obtain ⟨a9, c9, hv9⟩ := owns_form hown9
        subst hv9
        clear hown9 h8 d8 s8 hb9
        go_wp2_with fail
        refine (awake_any w9).mono ?_
        rintro e w10 ⟨rfl, hb10⟩
        have d10 := d9.on hb10
        have h10 := h9.on hb10
        have s8 := s8'.old' hb10
        have s9' := s9.old' hb10
        clear hb10 d9 h9 s8' s9
        go_wp2_with fail
        have sa10 := HSA.out.old' d10.below
        have sb10 := HSB.out.old' d10.below
        refine (Bytes_any _ _ a a w10 s8 sa10).mono ?_
        rw [show (a == a) = true from by simp]
        rintro e w' ⟨rfl, rfl⟩
        have g1 : a.length ≤ 70368744177664 := by omega
        have g2 : a.length + b.length ≤ 70368744177664 := by omega
        go_wp2_with (first
          | (at_builtin; refine wpList_append_u8n (by rfl) (.tmp 79) rfl _ a rfl sa10 g1 ?_; intro p1 q1 m1 own1 bel1)
          | (at_builtin; refine wpList_append_u8 (by rfl) (.tmp 80) (.tmp 81) rfl w10.heap.size _ a rfl own1 _ b rfl (sb10.old' bel1) g2 bel1.size ?_; intro p2 q2 m2 own2 bel2))
        have hbm : Below w10.heap.size w10 m2 := bel1.trans bel2
        have d11 := d10.on hbm
        have h11 := h10.on hbm
        have sz := s9'.old' hbm
        have sw := Sl.ofOwns own2
        clear s8 sa10 sb10 own1 own2 bel1 bel2 hbm d10 h10 s9'
        rw [List.length_append] at sz
        refine (Bytes_any _ _ (a ++ b) (a ++ b) m2 sz sw).mono ?_
        rw [show ((a ++ b) == (a ++ b)) = true from by simp]
        rintro e w' ⟨rfl, rfl⟩
        clear sz sw
        go_wp2_with fail
        refine (Synced_any 0 m2 d11.at_).mono ?_
        rw [FF_synced]
        rintro e w' ⟨rfl, rfl⟩
        go_wp2_with fail
        refine (Synced_any 0 m2 h11.at_).mono ?_
        rw [FF_synced, List.length_append]
        rintro e w' ⟨rfl, rfl⟩
        have hbel := d11.below
        have hsum : ((a.length + b.length : Nat) : Int) = (a.length : Int) + (b.length : Int) := by omega
        rw [hsum]
        clear hsum d11 h11
        go_wp2
        go_ret
        exact ⟨rfl, hbel⟩

theorem own : ownKnob Try.prog.godebug = none := by kernel_rfl
theorem laidOut : laidOutB Try.prog = true := by kernel_rfl

set_option maxRecDepth 100000 in
theorem lifted (os : Os) (started : os.Started) (H : Type) (enc : TypeId × Value → H) :
    ReturnsInHanded {} Try.checked os 8 .any (Rows.diskForksSpec.pre6 enc Try.prog Try.f8 Rows.diskForksRow.domain false) (Rows.diskForksSpec.post enc Try.prog Try.f8 false true false false) := by
  refine returnsInHanded_of_change (C := Try.checked) own started (by kernel_rfl) Try.func8
    (ChangeSpec.witness6 (enc := enc) (C := Try.checked) false ⟨#[], #[.slice none 0 0, .slice none 0 0], []⟩ 8 (by kernel_rfl) (by kernel_rfl) (by kernel_rfl) (by kernel_rfl)) ?_
  intro W base args ds gs before hval0 hW hcnd _
  have hval : ∀ (j : Nat) t v, Try.f8.params[j]? = some t → args[j]? = some v → Value.okWide Try.prog W .any base t v := hval0
  have hW' := hW
  obtain ⟨p, q, hA0, hV, rfl, hfz, hnd⟩ := hW
  have hA : DataW.TrodAll enc Try.prog W 0 (fun _ => true) true Try.f8.params.toList args.toList ds p := hA0
  rw [Try.params8] at hA hval
  obtain ⟨v0, vs0, d0, ds0, p0, q0, hargs, rfl, rfl, h0, r0⟩ := trodAll_cons hA
  obtain ⟨v1, vs1, d1, ds1, p1, q1, rfl, rfl, rfl, h1, r1⟩ := trodAll_cons r0
  obtain ⟨rfl, rfl, rfl⟩ := trodAll_nil r1
  obtain rfl : args = #[v0, v1] := by cases args; simp_all
  obtain ⟨rfl, rfl⟩ := trodVars_none hV
  have k0 := h0
  have lt0 : ∀ x ∈ p0, x.block < W.heap.size := by obtain ⟨m, hm⟩ := k0; exact DataW.trod_lt m _ _ _ hm
  obtain ⟨x0, l0, c0, rfl⟩ := okWide_slice Try.underlying28 (hval 0 28 v0 rfl rfl)
  obtain ⟨a0, w0⟩ : ∃ a, FactBytes W (.slice x0 l0 c0) a := by
    obtain ⟨fuel, hf⟩ := h0
    obtain ⟨v', a, hcs, hs⟩ := open_bytes Try.underlying28 Try.underlying5 (by kernel_rfl) hf
    obtain rfl : v' = .slice x0 l0 c0 := by simpa [Value.cells] using hcs.symm
    exact ⟨a, hs⟩
  have k1 := h1
  have lt1 : ∀ x ∈ p1, x.block < W.heap.size := by obtain ⟨m, hm⟩ := k1; exact DataW.trod_lt m _ _ _ hm
  obtain ⟨x1, l1, c1, rfl⟩ := okWide_slice Try.underlying28 (hval 1 28 v1 rfl rfl)
  obtain ⟨a1, w1⟩ : ∃ a, FactBytes W (.slice x1 l1 c1) a := by
    obtain ⟨fuel, hf⟩ := h1
    obtain ⟨v', a, hcs, hs⟩ := open_bytes Try.underlying28 Try.underlying5 (by kernel_rfl) hf
    obtain rfl : v' = .slice x1 l1 c1 := by simpa [Value.cells] using hcs.symm
    exact ⟨a, hs⟩
  clear hA0 hval0
  refine (walk (.slice x0 l0 c0) a0 (.slice x1 l1 c1) a1 W w0 w1).mono fun e W' ⟨he, bel⟩ => ?_
  subst he
  exact ⟨_, rfl, _, _, _, [], _, [], hW', trodAll_mk1 (shut_bool Try.underlying4 _), (trodAll_cons_mk (Below.trod laidOut (by kernel_rfl) (of_decide_eq_true (by kernel_rfl)) k0 bel lt0) (trodAll_cons_mk (Below.trod laidOut (by kernel_rfl) (of_decide_eq_true (by kernel_rfl)) k1 bel lt1) trodAll_mk0)), rfl, bel.frame _, fun h => by cases h⟩

theorem over : Rows.diskForksRow.holds Try.pinned (OpenSpec.ofChange Rows.diskForksSpec) :=
  OpenClaim.holds_of_wide 8 Try.f8 rfl rfl rfl rfl rfl rfl rfl ⟨rfl, rfl, rfl, rfl, rfl⟩ rfl rfl rfl rfl rfl (by kernel_rfl) Try.func8 (by kernel_rfl)
    (of_decide_eq_true (by kernel_rfl)) (by unfold Func.isWrapper; first | (rw [if_pos (by decide +kernel)]; kernel_rfl) | (rw [if_neg (by decide +kernel)]; exact ⟨rfl, rfl⟩))
    (fun os started H enc _ => lifted os started H enc)

/-- The statement. -/
theorem proved : Rows.DiskForksSaid :=
  over
#print axioms proved
