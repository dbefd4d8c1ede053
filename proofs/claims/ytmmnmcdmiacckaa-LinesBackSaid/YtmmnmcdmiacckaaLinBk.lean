/-
  LinesBack: for every two texts: what is split is joined; it is whole; of whole lines what is joined is split.
-/
import Derived.Test.YtmmnmcdmiacckaaLinAw
import Derived.Test.YtmmnmcdmiacckaaOpenS
import Derived.ProofKit
import Derived.OpenShut
namespace Go.Proofs.Ytmmnmcdmiacckaa.linesBack
open Go.ChangeShapes Go.WideShapes Go.ChangeAt Go.RowKit

section
set_option maxRecDepth 100000
set_option maxHeartbeats 2000000
theorem walk_big (s t : List UInt8) (w : World) (h : 3000 < s.length ∨ 3000 < t.length) (hs : s.length ≤ maxLen) (ht : t.length ≤ maxLen) :
    Calls Try.prog 4 #[strV s, strV t] w fun e w' => e = .returned (.bool true) ∧ Below w.heap.size w w' := by
  unfold maxLen at hs ht
  unfold strV
  by_cases hb : 3000 < s.length
  · have hb' : (3000 : Int) < (s.length : Int) := by omega
    clear h hb
    go_enter Try.func4, Try.ntmps4
    go_wp2_with fail
    refine (awake_any w).mono ?_
    rintro e w1 ⟨rfl, hb1⟩
    go_wp2
    go_ret
    exact ⟨rfl, hb1⟩
  · have hb' : ¬ (3000 : Int) < (s.length : Int) := by omega
    have hx' : (3000 : Int) < (t.length : Int) := by omega
    clear h hb
    go_enter Try.func4, Try.ntmps4
    go_wp2_with fail
    refine (awake_any w).mono ?_
    rintro e w1 ⟨rfl, hb1⟩
    go_wp2
    go_ret
    exact ⟨rfl, hb1⟩

theorem walk_at (s t : List UInt8) (w : World) (hs : s.length ≤ 3000) (ht : t.length ≤ 3000) :
    Calls Try.prog 4 #[strV s, strV t] w fun e w' => e = .returned (.bool true) ∧ Below w.heap.size w w' := by
  have hs' : ¬ (3000 : Int) < (s.length : Int) := by omega
  have ht' : ¬ (3000 : Int) < (t.length : Int) := by omega
  obtain ⟨x, hx⟩ : ∃ x, s ++ [10] = x := ⟨_, rfl⟩
  have hxl : x.length = s.length + 1 := by rw [← hx]; simp
  obtain ⟨y, hy⟩ : ∃ y, x ++ t = y := ⟨_, rfl⟩
  have hyl : y.length ≤ 6001 := by rw [← hy, List.length_append]; omega
  have ha1 : ∀ wx, (Op.stringOp .add ⟨s.toArray⟩ ⟨#[10]⟩).run Try.prog wx = .ok (.string ⟨x.toArray⟩) wx := by rw [← hx]; exact run_str_add s [10] (by simp; omega)
  have ha2 : ∀ wx, (Op.stringOp .add ⟨x.toArray⟩ ⟨t.toArray⟩).run Try.prog wx = .ok (.string ⟨y.toArray⟩) wx := by rw [← hy]; exact run_str_add x t (by omega)
  have hjs := linesOf_join s
  have hjy := linesOf_join y
  have hcs := linesOf_count s
  have hcy := linesOf_count y
  have hcx := linesOf_count x
  have hct := linesOf_count t
  have hlen : (linesOf y).length = (linesOf x).length + (linesOf t).length := by
    rw [← hy, ← hx, List.append_assoc, ← List.length_append, ← linesOf_append]
    rfl
  obtain ⟨LS, hLS⟩ : ∃ LS, linesOf s = LS := ⟨_, rfl⟩
  obtain ⟨LY, hLY⟩ : ∃ LY, linesOf y = LY := ⟨_, rfl⟩
  obtain ⟨LX, hLX⟩ : ∃ LX, linesOf x = LX := ⟨_, rfl⟩
  obtain ⟨LT, hLT⟩ : ∃ LT, linesOf t = LT := ⟨_, rfl⟩
  rw [hLS] at hjs hcs
  rw [hLY] at hjy hcy hlen
  rw [hLX] at hcx hlen
  rw [hLT] at hct hlen
  have hsum : IntKind.i64.wrap ((LX.length : Int) + (LT.length : Int)) = (LY.length : Int) := (IntWalk.i64_in _ (by omega)).trans (by omega)
  have HS := hid hLS
  have HY := hid hLY
  have HX := hid hLX
  have HT := hid hLT
  have HJS := hid hjs
  have HJY := hid hjy
  clear hx hy hlen hLS hLY hLX hLT hjs hjy
  unfold strV
  go_enter Try.func4, Try.ntmps4
  go_wp2_with fail
  refine (PSplit_any s w (by omega)).mono ?_
  rw [HS.out]
  rintro e w1 ⟨v, rfl, hv, hb1⟩
  obtain ⟨av, cv, hf⟩ := hv.form
  subst hf
  rw [strCells_length] at hv ⊢
  go_wp2_with fail
  refine (PSplit_any y w1 (by omega)).mono ?_
  rw [HY.out]
  rintro e w2 ⟨u, rfl, hu, hb2⟩
  obtain ⟨au, cu, hf⟩ := hu.form
  subst hf
  rw [strCells_length] at hu ⊢
  have hbw2 := below_step hb1 hb2 hb1.size
  have hv2 := Sl.old hv hb2
  clear hv
  go_wp2_with fail
  refine (awake_any w2).mono ?_
  rintro e w3 ⟨rfl, hb3⟩
  have hbw3 := below_step hbw2 hb3 hbw2.size
  have hv3 := Sl.old hv2 hb3
  have hu3 := Sl.old hu hb3
  clear hv2 hu
  go_wp2_with fail
  refine (PJoin_any _ LS w3 hv3 (by rw [HJS.out]; omega) (by omega)).mono ?_
  rw [HJS.out]
  rintro e w4 ⟨rfl, hb4⟩
  have hbw4 := below_step hbw3 hb4 hbw3.size
  have hv4 := Sl.old hv3 hb4
  have hu4 := Sl.old hu3 hb4
  clear hv3 hu3
  unfold strV
  go_wp2_with fail
  refine (PWhole_any _ LS w4 hv4 (by rw [HJS.out]; omega) (by omega)).mono ?_
  rw [HJS.out, HS.out, show (LS == LS) = true by simp]
  rintro e w5 ⟨rfl, hb5⟩
  have hbw5 := below_step hbw4 hb5 hbw4.size
  have hv5 := Sl.old hv4 hb5
  have hu5 := Sl.old hu4 hb5
  clear hv4 hu4
  go_wp2_with fail
  refine (PJoin_any _ LS w5 hv5 (by rw [HJS.out]; omega) (by omega)).mono ?_
  rw [HJS.out]
  rintro e w6 ⟨rfl, hb6⟩
  have hbw6 := below_step hbw5 hb6 hbw5.size
  have hv6 := Sl.old hv5 hb6
  have hu6 := Sl.old hu5 hb6
  clear hv5 hu5
  go_wp2_with fail
  refine (PSplit_any s w6 (by omega)).mono ?_
  rw [HS.out]
  rintro e w7 ⟨v7, rfl, hv7, hb7⟩
  have hbw7 := below_step hbw6 hb7 hbw6.size
  have hvv := Sl.old hv6 hb7
  have hu7 := Sl.old hu6 hb7
  clear hv6 hu6
  go_wp2_with fail
  refine (SPlain_any _ _ LS LS w7 hv7 hvv (by unfold maxLen; omega)).mono ?_
  rw [show (LS == LS) = true by simp]
  rintro e w8 ⟨rfl, q, rfl⟩
  have hd := below_drewN w7 q
  have hbw8 := below_step hbw7 hd hbw7.size
  have hu8 := Sl.old hu7 hd
  generalize w7.drewN q = w8 at hbw8 hu8 ⊢
  clear hv7 hvv hu7 hd
  go_wp2_with fail
  refine (PJoin_any _ LY w8 hu8 (by rw [HJY.out]; omega) (by omega)).mono ?_
  rw [HJY.out]
  rintro e w9 ⟨rfl, hb9⟩
  have hbw9 := below_step hbw8 hb9 hbw8.size
  unfold strV
  go_wp2_with fail
  refine (PSplit_any x w9 (by omega)).mono ?_
  rw [HX.out]
  rintro e w10 ⟨v10, rfl, hv10, hb10⟩
  have hbw10 := below_step hbw9 hb10 hbw9.size
  obtain ⟨a10, c10, hf⟩ := hv10.form
  subst hf
  rw [strCells_length]
  clear hv10
  go_wp2_with fail
  refine (PSplit_any t w10 (by omega)).mono ?_
  rw [HT.out]
  rintro e w11 ⟨v11, rfl, hv11, hb11⟩
  have hbw11 := below_step hbw10 hb11 hbw10.size
  obtain ⟨a11, c11, hf⟩ := hv11.form
  subst hf
  rw [strCells_length]
  clear hv11
  go_wp2
  go_ret
  exact ⟨rfl, hbw11⟩

theorem walk (s t : List UInt8) (w : World) (hs : s.length ≤ maxLen) (ht : t.length ≤ maxLen) :
    Calls Try.prog 4 #[strV s, strV t] w fun e w' => e = .returned (.bool true) ∧ Below w.heap.size w w' := by
  by_cases h : s.length ≤ 3000 ∧ t.length ≤ 3000
  · exact walk_at s t w h.1 h.2
  · exact walk_big s t w (by omega) hs ht
end

theorem own : ownKnob Try.prog.godebug = none := by kernel_rfl
theorem laidOut : laidOutB Try.prog = true := by kernel_rfl

theorem contract (H : Type) (enc : TypeId × Value → H) (W : World) (base : Nat) (args : Array Value) (ds gs : List (DataW H)) (before : List MemPlace)
    (hval : ∀ (j : Nat) t v, Try.f4.params[j]? = some t → args[j]? = some v → Value.okWide Try.prog W .any base t v)
    (hW : DataW.Whole enc Try.prog Try.f4.params.toList Rows.linesBackSpec.vars false W args.toList ds gs before) :
    Calls Try.prog 4 args W fun e W' => ∃ v, e = .returned v ∧ Rows.linesBackSpec.post enc Try.prog Try.f4 false true false false W args v W' := by
  have hW' := hW
  obtain ⟨p, q, hA0, hV, rfl, hfz, hnd⟩ := hW
  have hA : DataW.TrodAll enc Try.prog W 0 (fun _ => true) true Try.f4.params.toList args.toList ds p := hA0
  rw [Try.params4] at hA hval
  obtain ⟨v0, vs0, d0, ds0, p0, q0, hargs, rfl, rfl, h0, r0⟩ := trodAll_cons hA
  obtain ⟨v1, vs1, d1, ds1, p1, q1, rfl, rfl, rfl, h1, r1⟩ := trodAll_cons r0
  obtain ⟨rfl, rfl, rfl⟩ := trodAll_nil r1
  obtain rfl : args = #[v0, v1] := by cases args; simp_all
  obtain ⟨rfl, rfl⟩ := trodVars_none hV
  have k0 := h0
  have lt0 : ∀ x ∈ p0, x.block < W.heap.size := by obtain ⟨m, hm⟩ := k0; exact DataW.trod_lt m _ _ _ hm
  obtain ⟨a0, rfl, _, _, w0⟩ := open_str Try.underlying9 (hval 0 9 v0 rfl rfl) h0
  have k1 := h1
  have lt1 : ∀ x ∈ p1, x.block < W.heap.size := by obtain ⟨m, hm⟩ := k1; exact DataW.trod_lt m _ _ _ hm
  obtain ⟨a1, rfl, _, _, w1⟩ := open_str Try.underlying9 (hval 1 9 v1 rfl rfl) h1
  clear hA0
  refine (walk a0 a1 W w0 w1).mono fun e W' ⟨he, bel⟩ => ?_
  subst he
  exact ⟨_, rfl, _, _, _, [], _, [], hW', trodAll_mk1 (shut_bool Try.underlying4 _), (trodAll_cons_mk (Below.trod laidOut (by kernel_rfl) (of_decide_eq_true (by kernel_rfl)) k0 bel lt0) (trodAll_cons_mk (Below.trod laidOut (by kernel_rfl) (of_decide_eq_true (by kernel_rfl)) k1 bel lt1) trodAll_mk0)), rfl, bel.frame _, fun h => by cases h⟩

set_option maxRecDepth 100000 in
theorem lifted (os : Os) (started : os.Started) (H : Type) (enc : TypeId × Value → H) :
    ReturnsInHanded {} Try.checked os 4 .any (Rows.linesBackSpec.pre6 enc Try.prog Try.f4 Rows.linesBackRow.domain false) (Rows.linesBackSpec.post enc Try.prog Try.f4 false true false false) := by
  refine returnsInHanded_of_change (C := Try.checked) own started (by kernel_rfl) Try.func4
    (ChangeSpec.witness6 (enc := enc) (C := Try.checked) false ⟨#[], #[.string ByteArray.empty, .string ByteArray.empty], []⟩ 8 (by kernel_rfl) (by kernel_rfl) (by kernel_rfl) (by kernel_rfl)) ?_
  intro W base args ds gs before hval hW _ _
  exact contract H enc W base args ds gs before hval hW

theorem over : Rows.linesBackRow.holds Try.pinned (OpenSpec.ofChange Rows.linesBackSpec) :=
  OpenClaim.holds_of_wide 4 Try.f4 rfl rfl rfl rfl rfl rfl rfl ⟨rfl, rfl, rfl, rfl, rfl⟩ rfl rfl rfl rfl rfl (by kernel_rfl) Try.func4 (by kernel_rfl)
    (of_decide_eq_true (by kernel_rfl)) (by unfold Func.isWrapper; first | (rw [if_pos (by decide +kernel)]; kernel_rfl) | (rw [if_neg (by decide +kernel)]; exact ⟨rfl, rfl⟩))
    (fun os started H enc _ => lifted os started H enc)

/-- The statement. -/
theorem proved : Rows.LinesBackSaid :=
  over
#print axioms proved
end Go.Proofs.Ytmmnmcdmiacckaa.linesBack
