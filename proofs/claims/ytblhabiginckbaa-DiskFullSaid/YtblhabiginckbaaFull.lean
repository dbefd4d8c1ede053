/-
  DiskFull: for every room, number of bytes and file: what finds no room is refused, and nothing of it is there; a file that there is not is refused; a nil disk answers what the document says. No condition.
-/
import Derived.Test.YtblhabiginckbaaDskW
import Derived.Test.YtblhabiginckbaaOpen
namespace Go.Proofs.Ytblhabiginckbaa.diskFull
open Go.ChangeShapes Go.WideShapes Go.ChangeAt Go.RowKit

theorem made_zero (n : Nat) : madeCells #[.int .u8 0] n = (Lib.byteCells (List.replicate n 0)).toArray := by
  apply Array.ext
  · simp [size_madeCells, Lib.byteCells]
  · intro i h1 h2
    have hi : i < n := by simpa [size_madeCells] using h1
    simp [madeCells, Lib.byteCells, Nat.mod_one]
theorem run_make_zero (w : World) (n : Nat) (hn : n ≤ 70368744177664) :
    (Instr.makeSlice 28 (.int .i64 (n : Int)) (.int .i64 (n : Int))).run Try.prog w = .ok (.slice (some ⟨w.heap.size, 0, none⟩) n n) (w.alloc (.cells (Lib.byteCells (List.replicate n 0)).toArray 5)) := by
  obtain ⟨i0, hi0, hi1, hi2, hi3⟩ := info_parts Try.info5
  have h := run_make (P := Try.prog) w 28 5 i0 (.int .u8 0) Try.underlying28 hi0 hi1 .i64 .i64 (n : Int) (n : Int) (by omega) (by omega) (by rw [hi3]; omega) (by omega)
  rw [hi2, Int.toNat_natCast, Nat.mul_one] at h
  rw [h, show (Value.int .u8 0).cells = #[.int .u8 0] from rfl, made_zero]

/-- A disk of so much room, with nothing in it. -/
def E0 (r : Nat) : Dk := ⟨r, ⟨[], 0⟩, ⟨[], 0⟩, false, 0, 0, 0⟩
theorem E0_new (r : Nat) (h : r < 500) : Dk.new (r : Int) = E0 r := by unfold Dk.new E0; rw [heldI_room (by omega)]; rfl
theorem E0_yes (r n : Nat) (h : ¬ r < n) : (E0 r).askAppend 0 (List.replicate n (0 : UInt8)).length = 0 ∧ ((E0 r).append 0 (List.replicate n 0)).read 0 = List.replicate n 0 := by
  have h1 : (E0 r).askAppend 0 (List.replicate n (0 : UInt8)).length = 0 := by
    unfold Dk.askAppend
    rw [show (E0 r).ask 0 = 0 from rfl, if_pos rfl, show (E0 r).free = r from rfl, List.length_replicate, if_neg h]
  refine ⟨h1, ?_⟩
  unfold Dk.append
  rw [h1]
  rfl
theorem E0_no (r n : Nat) (h : r < n) : (E0 r).askAppend 0 (List.replicate n (0 : UInt8)).length = 3 ∧ (E0 r).append 0 (List.replicate n 0) = E0 r := by
  have h1 : (E0 r).askAppend 0 (List.replicate n (0 : UInt8)).length = 3 := by
    unfold Dk.askAppend
    rw [show (E0 r).ask 0 = 0 from rfl, if_pos rfl, show (E0 r).free = r from rfl, List.length_replicate, if_pos h]
  exact ⟨h1, by unfold Dk.append; rw [h1]; rfl⟩
theorem calm_ask (D : Dk) (h : D.armed = false) (f : Int) : D.ask f = if f = 0 ∨ f = 1 then 0 else 1 := by unfold Dk.ask Dk.down; rw [h]; rfl
theorem E0_append_calm (r : Nat) (cs : List UInt8) : ((E0 r).append 0 cs).armed = false := by unfold Dk.append; split <;> rfl

theorem mod_nat (a : Int) (q : Nat) (hq : 0 < q) (hq' : q < 1000000) : ∃ m : Nat, wrap64 ((IntKind.u64.wrap a).tmod (q : Int)) = (m : Int) ∧ m < q := by
  have h0 : 0 ≤ IntKind.u64.wrap a := by simp only [IntKind.wrap_u64]; omega
  generalize IntKind.u64.wrap a = x at h0
  obtain ⟨x, rfl⟩ := Int.eq_ofNat_of_zero_le h0
  have hx := Nat.mod_lt x hq
  have e : (x : Int).tmod (q : Int) = ((x % q : Nat) : Int) := by rw [Int.tmod_eq_emod_of_nonneg (by omega)]; omega
  exact ⟨x % q, by rw [e]; exact IntWalk.wrap64_in _ (by omega), hx⟩

set_option maxRecDepth 1000000 in
set_option maxHeartbeats 4000000 in
theorem walk (a0 a1 a2 : Int) (w : World) (_w0 : (Lit.int .i64 a0).wf = true) (_w1 : (Lit.int .i64 a1).wf = true) (_w2 : (Lit.int .i64 a2).wf = true) :
    Calls Try.prog 5 #[.int .i64 a0, .int .i64 a1, .int .i64 a2] w fun e w' => e = .returned (.bool true) ∧ Below w.heap.size w w' := by
  obtain ⟨r, hr, hr5⟩ := mod_nat a0 500 (by decide) (by decide)
  obtain ⟨n, hn, hn6⟩ := mod_nat a1 600 (by decide) (by decide)
  have hE := hid (E0_new r hr5)
  obtain ⟨f, hf⟩ : ∃ f : Int, f = if a2 < 0 ∨ 2 ≤ a2 then 1 else 0 := ⟨_, rfl⟩
  have hask : (if a2 = 0 ∨ a2 = 1 then (0 : Int) else 1) = f := by
    rw [hf]
    by_cases h : a2 = 0 ∨ a2 = 1
    · rw [if_pos h, if_neg (by omega)]
    · rw [if_neg h, if_pos (by omega)]
  have hASK := hid (show ((E0 r).append 0 (List.replicate n 0)).ask 0 = 0 by rw [calm_ask _ (E0_append_calm _ _)]; rfl)
  have hASKF := hid (show ((E0 r).append 0 (List.replicate n 0)).ask a2 = f by rw [calm_ask _ (E0_append_calm _ _), hask])
  have HF := hid hf
  have hmk := fun wx => run_make_zero wx n (by omega)
  have HMK := hid hmk
  rw [show ((500 : Nat) : Int) = 500 from rfl] at hr
  rw [show ((600 : Nat) : Int) = 600 from rfl] at hn
  have h3 : (∃ _ : a2 < 0, f = 1) ∨ (∃ (_ : 0 ≤ a2) (_ : 2 ≤ a2), f = 1) ∨ (∃ (_ : 0 ≤ a2) (_ : a2 < 2), f = 0) := by
    rw [hf]
    by_cases h1 : a2 < 0
    · exact .inl ⟨h1, if_pos (.inl h1)⟩
    · by_cases h2 : 2 ≤ a2
      · exact .inr (.inl ⟨by omega, h2, if_pos (.inr h2)⟩)
      · exact .inr (.inr ⟨by omega, by omega, if_neg (by omega)⟩)
  clear hf hask hmk HF
  by_cases hlt : r < n
  · have HA := hid (E0_no r n hlt).1
    have HL := hid (show ((E0 r).append 0 (List.replicate n 0)).read 0 = [] by rw [(E0_no r n hlt).2]; rfl)
    have HLN := hid (show ([] : List UInt8).length = 0 from rfl)
    have i1 : (r : Int) < (n : Int) := by omega
    have i2 : ((0 : Int) == (n : Int)) = false := by simp; omega
    have i3 : ((n : Int) == (0 : Int)) = false := by simp; omega
    clear hlt
    rcases h3 with ⟨_, hf⟩ | ⟨_, _, hf⟩ | ⟨_, _, hf⟩
    all_goals
      have HFV := hid hf
      clear hf
    all_goals
      go_enter Try.func5, Try.ntmps5
      go_wp2_with fail
      rw [hr, hn]
      refine (New_ok (r : Int) w w (Below.refl _ _)).mono ?_
      rw [hE.out]
      rintro e w1 ⟨rfl, v0, v1, h1, _⟩
      clear hr hn
      go_wp2_with fail
      refine (awake_any w1).mono ?_
      rintro e w2 ⟨rfl, hb2⟩
      have h2 := h1.on hb2
      clear h1 hb2
      have hmk := HMK.out w2
      go_wp2_with fail
      clear hmk
      have hs : Sl (w2.alloc (.cells (Lib.byteCells (List.replicate n 0)).toArray 5)) (.slice (some ⟨w2.heap.size, 0, none⟩) n n) (Lib.byteCells (List.replicate n 0)) := by
        have h := Sl.ofBlock (heap_alloc_new w2 (.cells (Lib.byteCells (List.replicate n 0)).toArray 5))
        simpa [Lib.byteCells_length] using h
      refine (Append_ok 0 (List.replicate n 0) (h2.alloc _) hs).mono ?_
      rw [HA.out]
      rintro e w3 ⟨rfl, x0, x1, h3, _⟩
      clear hs h2
      go_wp2_with fail
      refine (Read_ok 0 h3).mono ?_
      rw [hASK.out, HL.out]
      rintro e w4 ⟨v4, rfl, hown, h4, _⟩
      obtain ⟨a4, c4, hv4⟩ := owns_form hown
      rw [HLN.out] at hv4
      subst hv4
      clear h3 hown
      go_wp2_with fail
      refine (Read_nil 0 w4).mono ?_
      rintro e w' ⟨rfl, rfl⟩
      go_wp2_with fail
      refine (Arm_nil 1 _ w4).mono ?_
      rintro e w' ⟨rfl, rfl⟩
      go_wp2_with fail
      refine (Sync_ok a2 h4).mono ?_
      rw [hASKF.out, HFV.out]
      rintro e w5 ⟨rfl, y0, y1, h5, _⟩
      clear h4
      have hbel := h5.below
      clear h5
      go_wp2_with fail
      refine (Append_nil 0 _ w5).mono ?_
      rintro e w' ⟨rfl, rfl⟩
      go_wp2_with fail
      refine (Sync_nil 0 w5).mono ?_
      rintro e w' ⟨rfl, rfl⟩
      go_wp2_with fail
      refine (Cut_nil 0 0 w5).mono ?_
      rintro e w' ⟨rfl, rfl⟩
      go_wp2_with fail
      refine (Down_nil w5).mono ?_
      rintro e w' ⟨rfl, rfl⟩
      go_wp2_with fail
      refine (Free_nil w5).mono ?_
      rintro e w' ⟨rfl, rfl⟩
      go_wp2_with fail
      refine (Synced_nil 0 w5).mono ?_
      rintro e w' ⟨rfl, rfl⟩
      go_wp2_with fail
      refine (Restart_nil w5).mono ?_
      rintro e w' ⟨rfl, rfl⟩
      go_wp2_with fail
      refine (Fork_nil w5).mono ?_
      rintro e w' ⟨rfl, rfl⟩
      go_wp2
      go_ret
      exact ⟨rfl, hbel⟩
  · have HA := hid (E0_yes r n hlt).1
    have HL := hid (E0_yes r n hlt).2
    have HLN := hid (show (List.replicate n (0 : UInt8)).length = n from List.length_replicate)
    have i1 : (n : Int) ≤ (r : Int) := by omega
    clear hlt
    rcases h3 with ⟨_, hf⟩ | ⟨_, _, hf⟩ | ⟨_, _, hf⟩
    all_goals
      have HFV := hid hf
      clear hf
    all_goals
      go_enter Try.func5, Try.ntmps5
      go_wp2_with fail
      rw [hr, hn]
      refine (New_ok (r : Int) w w (Below.refl _ _)).mono ?_
      rw [hE.out]
      rintro e w1 ⟨rfl, v0, v1, h1, _⟩
      clear hr hn
      go_wp2_with fail
      refine (awake_any w1).mono ?_
      rintro e w2 ⟨rfl, hb2⟩
      have h2 := h1.on hb2
      clear h1 hb2
      have hmk := HMK.out w2
      go_wp2_with fail
      clear hmk
      have hs : Sl (w2.alloc (.cells (Lib.byteCells (List.replicate n 0)).toArray 5)) (.slice (some ⟨w2.heap.size, 0, none⟩) n n) (Lib.byteCells (List.replicate n 0)) := by
        have h := Sl.ofBlock (heap_alloc_new w2 (.cells (Lib.byteCells (List.replicate n 0)).toArray 5))
        simpa [Lib.byteCells_length] using h
      refine (Append_ok 0 (List.replicate n 0) (h2.alloc _) hs).mono ?_
      rw [HA.out]
      rintro e w3 ⟨rfl, x0, x1, h3, _⟩
      clear hs h2
      go_wp2_with fail
      refine (Read_ok 0 h3).mono ?_
      rw [hASK.out, HL.out]
      rintro e w4 ⟨v4, rfl, hown, h4, _⟩
      obtain ⟨a4, c4, hv4⟩ := owns_form hown
      rw [HLN.out] at hv4
      subst hv4
      clear h3 hown
      go_wp2_with fail
      refine (Read_nil 0 w4).mono ?_
      rintro e w' ⟨rfl, rfl⟩
      go_wp2_with fail
      refine (Arm_nil 1 _ w4).mono ?_
      rintro e w' ⟨rfl, rfl⟩
      go_wp2_with fail
      refine (Sync_ok a2 h4).mono ?_
      rw [hASKF.out, HFV.out]
      rintro e w5 ⟨rfl, y0, y1, h5, _⟩
      clear h4
      have hbel := h5.below
      clear h5
      go_wp2_with fail
      refine (Append_nil 0 _ w5).mono ?_
      rintro e w' ⟨rfl, rfl⟩
      go_wp2_with fail
      refine (Sync_nil 0 w5).mono ?_
      rintro e w' ⟨rfl, rfl⟩
      go_wp2_with fail
      refine (Cut_nil 0 0 w5).mono ?_
      rintro e w' ⟨rfl, rfl⟩
      go_wp2_with fail
      refine (Down_nil w5).mono ?_
      rintro e w' ⟨rfl, rfl⟩
      go_wp2_with fail
      refine (Free_nil w5).mono ?_
      rintro e w' ⟨rfl, rfl⟩
      go_wp2_with fail
      refine (Synced_nil 0 w5).mono ?_
      rintro e w' ⟨rfl, rfl⟩
      go_wp2_with fail
      refine (Restart_nil w5).mono ?_
      rintro e w' ⟨rfl, rfl⟩
      go_wp2_with fail
      refine (Fork_nil w5).mono ?_
      rintro e w' ⟨rfl, rfl⟩
      go_wp2
      go_ret
      exact ⟨rfl, hbel⟩

theorem own : ownKnob Try.prog.godebug = none := by kernel_rfl
theorem laidOut : laidOutB Try.prog = true := by kernel_rfl

set_option maxRecDepth 100000 in
theorem lifted (os : Os) (started : os.Started) (H : Type) (enc : TypeId × Value → H) :
    ReturnsInHanded {} Try.checked os 5 .any (Rows.diskFullSpec.pre6 enc Try.prog Try.f5 Rows.diskFullRow.domain false) (Rows.diskFullSpec.post enc Try.prog Try.f5 false true false false) := by
  refine returnsInHanded_of_change (C := Try.checked) own started (by kernel_rfl) Try.func5
    (ChangeSpec.witness6 (enc := enc) (C := Try.checked) false ⟨#[], #[.int .i64 0, .int .i64 0, .int .i64 0], []⟩ 8 (by kernel_rfl) (by kernel_rfl) (by kernel_rfl) (by kernel_rfl)) ?_
  intro W base args ds gs before hval0 hW hcnd _
  have hval : ∀ (j : Nat) t v, Try.f5.params[j]? = some t → args[j]? = some v → Value.okWide Try.prog W .any base t v := hval0
  have hW' := hW
  obtain ⟨p, q, hA0, hV, rfl, hfz, hnd⟩ := hW
  have hA : DataW.TrodAll enc Try.prog W 0 (fun _ => true) true Try.f5.params.toList args.toList ds p := hA0
  rw [Try.params5] at hA hval
  obtain ⟨v0, vs0, d0, ds0, p0, q0, hargs, rfl, rfl, h0, r0⟩ := trodAll_cons hA
  obtain ⟨v1, vs1, d1, ds1, p1, q1, rfl, rfl, rfl, h1, r1⟩ := trodAll_cons r0
  obtain ⟨v2, vs2, d2, ds2, p2, q2, rfl, rfl, rfl, h2, r2⟩ := trodAll_cons r1
  obtain ⟨rfl, rfl, rfl⟩ := trodAll_nil r2
  obtain rfl : args = #[v0, v1, v2] := by cases args; simp_all
  obtain ⟨rfl, rfl⟩ := trodVars_none hV
  have k0 := h0
  have lt0 : ∀ x ∈ p0, x.block < W.heap.size := by obtain ⟨m, hm⟩ := k0; exact DataW.trod_lt m _ _ _ hm
  obtain ⟨a0, rfl, _, _, w0⟩ := open_int Try.underlying3 (hval 0 3 v0 rfl rfl) h0
  have k1 := h1
  have lt1 : ∀ x ∈ p1, x.block < W.heap.size := by obtain ⟨m, hm⟩ := k1; exact DataW.trod_lt m _ _ _ hm
  obtain ⟨a1, rfl, _, _, w1⟩ := open_int Try.underlying3 (hval 1 3 v1 rfl rfl) h1
  have k2 := h2
  have lt2 : ∀ x ∈ p2, x.block < W.heap.size := by obtain ⟨m, hm⟩ := k2; exact DataW.trod_lt m _ _ _ hm
  obtain ⟨a2, rfl, _, _, w2⟩ := open_int Try.underlying3 (hval 2 3 v2 rfl rfl) h2
  clear hA0 hval0
  refine (walk a0 a1 a2 W w0 w1 w2).mono fun e W' ⟨he, bel⟩ => ?_
  subst he
  exact ⟨_, rfl, _, _, _, [], _, [], hW', trodAll_mk1 (shut_bool Try.underlying4 _), (trodAll_cons_mk (Below.trod laidOut (by kernel_rfl) (of_decide_eq_true (by kernel_rfl)) k0 bel lt0) (trodAll_cons_mk (Below.trod laidOut (by kernel_rfl) (of_decide_eq_true (by kernel_rfl)) k1 bel lt1) (trodAll_cons_mk (Below.trod laidOut (by kernel_rfl) (of_decide_eq_true (by kernel_rfl)) k2 bel lt2) trodAll_mk0))), rfl, bel.frame _, fun h => by cases h⟩

theorem over : Rows.diskFullRow.holds Try.pinned (OpenSpec.ofChange Rows.diskFullSpec) :=
  OpenClaim.holds_of_wide 5 Try.f5 rfl rfl rfl rfl rfl rfl rfl ⟨rfl, rfl, rfl, rfl, rfl⟩ rfl rfl rfl rfl rfl (by kernel_rfl) Try.func5 (by kernel_rfl)
    (of_decide_eq_true (by kernel_rfl)) (by unfold Func.isWrapper; first | (rw [if_pos (by decide +kernel)]; kernel_rfl) | (rw [if_neg (by decide +kernel)]; exact ⟨rfl, rfl⟩))
    (fun os started H enc _ => lifted os started H enc)

/-- The statement. -/
theorem proved : Rows.DiskFullSaid :=
  over
#print axioms proved
