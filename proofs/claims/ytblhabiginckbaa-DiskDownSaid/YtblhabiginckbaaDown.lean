/-
  DiskDown: for every number of steps and every file, a disk that is armed so is up till that many steps were done; then it is down, and does nothing; refused calls are no steps. No condition.
-/
import Derived.Test.YtblhabiginckbaaDskW
import Derived.Test.YtblhabiginckbaaOpen
namespace Go.Proofs.Ytblhabiginckbaa.diskDown
open Go.ChangeShapes Go.WideShapes Go.ChangeAt Go.RowKit

/-- Behind i steps of m. -/
def DD (m i : Nat) : Dk := ⟨1000, ⟨List.replicate ((i + 1) / 2) 1, 0⟩, ⟨List.replicate (i / 2) 1, 0⟩, true, m - i, 0, 0⟩
theorem DD_down (m i : Nat) (h : i < m) : (DD m i).down = false := by
  unfold Dk.down DD
  simp
  omega
theorem DD_ask (m i : Nat) (n : Int) (h : i < m) (hn : n = 0 ∨ n = 1) : (DD m i).ask n = 0 := by
  unfold Dk.ask
  rw [DD_down m i h]
  simp [hn]
theorem DD_end (m : Nat) : (DD m m).down = true := by simp [Dk.down, DD]
theorem DD_ask_end (m : Nat) (n : Int) : (DD m m).ask n = 7 := by unfold Dk.ask; rw [DD_end, if_pos rfl]
theorem DD_free (m i : Nat) : (DD m i).free = 1000 - i := by
  simp only [Dk.free, DD, List.length_replicate]
  omega
theorem DD_cut (m i : Nat) (h : i < m) (hm : m < 40) : (DD m i).askCut 0 5000 = 1 ∧ (DD m i).cut 0 5000 = DD m i := by
  have h1 : (DD m i).askCut 0 5000 = 1 := by
    unfold Dk.askCut
    rw [DD_ask m i 0 h (.inl rfl), if_pos rfl]
    refine if_pos (.inr ?_)
    simp [DD]
    omega
  exact ⟨h1, by unfold Dk.cut; rw [h1]; rfl⟩
theorem DD_cut_end (m : Nat) : (DD m m).askCut 0 0 = 7 ∧ (DD m m).cut 0 0 = DD m m := by
  have h1 : (DD m m).askCut 0 0 = 7 := by unfold Dk.askCut; rw [DD_ask_end, if_neg (by decide)]
  exact ⟨h1, by unfold Dk.cut; rw [h1]; rfl⟩
theorem DD_append (m i : Nat) (n : Int) (h : i < m) (hm : m < 40) (hn : n = (i : Int) % 2) : (DD m i).askAppend n ([1] : List UInt8).length = 0 ∧ (DD m i).append n [1] = DD m (i + 1) := by
  have h01 : n = 0 ∨ n = 1 := by omega
  have h1 : (DD m i).askAppend n ([1] : List UInt8).length = 0 := by
    unfold Dk.askAppend
    rw [DD_ask m i n h h01, if_pos rfl, DD_free, if_neg (by simp; omega)]
  refine ⟨h1, ?_⟩
  unfold Dk.append
  rw [h1, if_pos rfl]
  rcases h01 with e | e
  · rw [if_pos e]
    have e1 : (i + 1 + 1) / 2 = (i + 1) / 2 + 1 := by omega
    have e2 : (i + 1) / 2 = i / 2 := by omega
    simp only [Dk.step, DD, if_true, e1, e2]
    rw [List.replicate_succ', show m - i - 1 = m - (i + 1) by omega]
  · rw [if_neg (by omega)]
    have e1 : (i + 1 + 1) / 2 = (i + 1) / 2 := by omega
    have e2 : (i + 1) / 2 = i / 2 + 1 := by omega
    simp only [Dk.step, DD, if_true, e1, e2]
    rw [List.replicate_succ', show m - i - 1 = m - (i + 1) by omega]
theorem DD_app_end (m : Nat) (n : Int) : (DD m m).askAppend n ([] : List UInt8).length = 7 ∧ (DD m m).append n [] = DD m m := by
  have h1 : (DD m m).askAppend n ([] : List UInt8).length = 7 := by unfold Dk.askAppend; rw [DD_ask_end, if_neg (by decide)]
  exact ⟨h1, by unfold Dk.append; rw [h1]; rfl⟩
theorem DD_sync_end (m : Nat) (n : Int) : (DD m m).sync n = DD m m := by unfold Dk.sync; rw [DD_ask_end]; rfl
theorem DD_new (m : Nat) : (Dk.new 1000).arm (m : Int) [] = DD m 0 := rfl

set_option maxRecDepth 1000000 in
set_option maxHeartbeats 1000000 in
theorem walk (a0 : Int) (a1 : Int) (w : World) (_w0 : (Lit.int .i64 a0).wf = true) (_w1 : (Lit.int .i64 a1).wf = true) :
    Calls Try.prog 6 #[.int .i64 a0, .int .i64 a1] w fun e w' => e = .returned (.bool true) ∧ Below w.heap.size w w' := by
  obtain ⟨m, hm, hm40⟩ : ∃ m : Nat, wrap64 ((IntKind.u64.wrap a0).tmod 40) = (m : Int) ∧ m < 40 := by
    have h0 : 0 ≤ IntKind.u64.wrap a0 := by simp only [IntKind.wrap_u64]; omega
    generalize IntKind.u64.wrap a0 = q at h0
    obtain ⟨q, rfl⟩ := Int.eq_ofNat_of_zero_le h0
    have e : (q : Int).tmod 40 = ((q % 40 : Nat) : Int) := by rw [Int.tmod_eq_emod_of_nonneg (by omega)]; omega
    exact ⟨q % 40, by rw [e]; exact IntWalk.wrap64_in _ (by omega), by omega⟩
  go_enter Try.func6, Try.ntmps6
  go_wp2_with fail
  rw [hm]
  refine (New_ok 1000 w w (Below.refl _ _)).mono ?_
  rintro e w1 ⟨rfl, v0, v1, h1, _⟩
  clear hm
  go_wp2_with fail
  refine (awake_any w1).mono ?_
  rintro e w2 ⟨rfl, hb2⟩
  have h2 := h1.on hb2
  clear h1 hb2
  go_wp2_with fail
  refine (Arm_ok (m : Int) [] h2 (by omega) (Sl.nil _) (by intro a k c e; cases e)).mono ?_
  rw [DD_new]
  rintro e w3 ⟨rfl, h3, _⟩
  clear h2
  go_wp2
  go_loopw [6] (fun i wr => ∃ k : Nat, k ≤ m ∧ i = .int .i64 (k : Int) ∧ ∃ v0 v1, DiskOk w wr w.heap.size v0 v1 (DD m k)) (fun i _ => m - (intOf i).toNat)
  case atStart => exact ⟨0, by omega, rfl, _, _, h3⟩
  case round =>
    clear h3
    obtain ⟨k, hk, rfl, v0, v1, h⟩ := hrel
    by_cases hlt : k < m
    · have hD := hid (DD_down m k hlt)
      have hC := hid (DD_cut m k hlt hm40)
      have hA := hid (DD_append m k _ hlt hm40 rfl)
      have i1 : (k : Int) < (m : Int) := by omega
      have i0 : (0 : Int) ≤ (k : Int) := Int.natCast_nonneg _
      go_wp2_with fail
      refine (Down_any wr h.at_).mono ?_
      rw [hD.out]
      rintro e w' ⟨rfl, rfl⟩
      go_wp2_with fail
      refine (Cut_ok 0 5000 h).mono ?_
      rw [hC.out.1, hC.out.2]
      rintro e w4 ⟨rfl, x0, x1, h4, _⟩
      clear h
      go_wp2_with fail
      have hs : Sl (w4.alloc (.cells #[.int .u8 1] 5)) (.slice (some ⟨w4.heap.size, 0, none⟩) 1 1) (Lib.byteCells [1]) := Sl.ofBlock (heap_alloc_new w4 _)
      refine (Append_ok ((k : Int) % 2) [1] (h4.alloc _) hs).mono ?_
      rw [hA.out.1, hA.out.2]
      rintro e w5 ⟨rfl, y0, y1, h5, _⟩
      clear hs h4
      go_wp2
      go_roundw
      case rel => exact ⟨k + 1, by omega, by go_num, _, _, h5⟩
      case measure => simp [intOf]; omega
    · obtain rfl : k = m := by omega
      have hD := hid (DD_end k)
      have hK := hid (DD_ask_end k)
      have hC := hid (DD_cut_end k)
      have hA := hid (DD_app_end k a1)
      have hS := hid (DD_sync_end k 0)
      have hF := hid (show ((DD k k).free : Int) = 1000 - (k : Int) by rw [DD_free]; omega)
      clear hlt hk
      go_wp2_with fail
      refine (Read_ok 0 h).mono ?_
      rw [hK.out]
      rintro e w4 ⟨v4, rfl, hown, h4, _⟩
      obtain ⟨a4, c4, hv4⟩ := owns_form hown
      subst hv4
      clear h hown
      go_wp2_with fail
      refine (Down_any w4 h4.at_).mono ?_
      rw [hD.out]
      rintro e w' ⟨rfl, rfl⟩
      go_wp2_with fail
      refine (Append_ok a1 [] h4 (Sl.nil _)).mono ?_
      rw [hA.out.1, hA.out.2]
      rintro e w5 ⟨rfl, y0, y1, h5, _⟩
      clear h4
      go_wp2_with fail
      refine (Sync_ok 0 h5).mono ?_
      rw [hK.out, hS.out]
      rintro e w6 ⟨rfl, z0, z1, h6, _⟩
      clear h5
      go_wp2_with fail
      refine (Cut_ok 0 0 h6).mono ?_
      rw [hC.out.1, hC.out.2]
      rintro e w7 ⟨rfl, t0, t1, h7, _⟩
      clear h6
      go_wp2_with fail
      refine (Free_ok h7).mono ?_
      rw [hF.out]
      rintro e w8 ⟨rfl, h8, _⟩
      have hb := h8.below
      clear h7 h8
      go_wp2
      go_ret
      exact ⟨rfl, hb⟩

theorem own : ownKnob Try.prog.godebug = none := by kernel_rfl
theorem laidOut : laidOutB Try.prog = true := by kernel_rfl

set_option maxRecDepth 100000 in
theorem lifted (os : Os) (started : os.Started) (H : Type) (enc : TypeId × Value → H) :
    ReturnsInHanded {} Try.checked os 6 .any (Rows.diskDownSpec.pre6 enc Try.prog Try.f6 Rows.diskDownRow.domain false) (Rows.diskDownSpec.post enc Try.prog Try.f6 false true false false) := by
  refine returnsInHanded_of_change (C := Try.checked) own started (by kernel_rfl) Try.func6
    (ChangeSpec.witness6 (enc := enc) (C := Try.checked) false ⟨#[], #[.int .i64 0, .int .i64 0], []⟩ 8 (by kernel_rfl) (by kernel_rfl) (by kernel_rfl) (by kernel_rfl)) ?_
  intro W base args ds gs before hval0 hW hcnd _
  have hval : ∀ (j : Nat) t v, Try.f6.params[j]? = some t → args[j]? = some v → Value.okWide Try.prog W .any base t v := hval0
  have hW' := hW
  obtain ⟨p, q, hA0, hV, rfl, hfz, hnd⟩ := hW
  have hA : DataW.TrodAll enc Try.prog W 0 (fun _ => true) true Try.f6.params.toList args.toList ds p := hA0
  rw [Try.params6] at hA hval
  obtain ⟨v0, vs0, d0, ds0, p0, q0, hargs, rfl, rfl, h0, r0⟩ := trodAll_cons hA
  obtain ⟨v1, vs1, d1, ds1, p1, q1, rfl, rfl, rfl, h1, r1⟩ := trodAll_cons r0
  obtain ⟨rfl, rfl, rfl⟩ := trodAll_nil r1
  obtain rfl : args = #[v0, v1] := by cases args; simp_all
  obtain ⟨rfl, rfl⟩ := trodVars_none hV
  have k0 := h0
  have lt0 : ∀ x ∈ p0, x.block < W.heap.size := by obtain ⟨m, hm⟩ := k0; exact DataW.trod_lt m _ _ _ hm
  obtain ⟨a0, rfl, _, _, w0⟩ := open_int Try.underlying3 (hval 0 3 v0 rfl rfl) h0
  have k1 := h1
  have lt1 : ∀ x ∈ p1, x.block < W.heap.size := by obtain ⟨m, hm⟩ := k1; exact DataW.trod_lt m _ _ _ hm
  obtain ⟨a1, rfl, _, _, w1⟩ := open_int Try.underlying3 (hval 1 3 v1 rfl rfl) h1
  clear hA0 hval0
  refine (walk a0 a1 W w0 w1).mono fun e W' ⟨he, bel⟩ => ?_
  subst he
  exact ⟨_, rfl, _, _, _, [], _, [], hW', trodAll_mk1 (shut_bool Try.underlying4 _), (trodAll_cons_mk (Below.trod laidOut (by kernel_rfl) (of_decide_eq_true (by kernel_rfl)) k0 bel lt0) (trodAll_cons_mk (Below.trod laidOut (by kernel_rfl) (of_decide_eq_true (by kernel_rfl)) k1 bel lt1) trodAll_mk0)), rfl, bel.frame _, fun h => by cases h⟩

theorem over : Rows.diskDownRow.holds Try.pinned (OpenSpec.ofChange Rows.diskDownSpec) :=
  OpenClaim.holds_of_wide 6 Try.f6 rfl rfl rfl rfl rfl rfl rfl ⟨rfl, rfl, rfl, rfl, rfl⟩ rfl rfl rfl rfl rfl (by kernel_rfl) Try.func6 (by kernel_rfl)
    (of_decide_eq_true (by kernel_rfl)) (by unfold Func.isWrapper; first | (rw [if_pos (by decide +kernel)]; kernel_rfl) | (rw [if_neg (by decide +kernel)]; exact ⟨rfl, rfl⟩))
    (fun os started H enc _ => lifted os started H enc)

/-- The statement. -/
theorem proved : Rows.DiskDownSaid :=
  over
#print axioms proved
