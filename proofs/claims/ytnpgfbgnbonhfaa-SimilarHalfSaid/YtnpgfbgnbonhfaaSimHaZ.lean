/-
  SimilarHalf: those that have half of their lines in common moved, those that have less did not.
-/
import Derived.Test.YtnpgfbgnbonhfaaG4
import Derived.Test.YtnpgfbgnbonhfaaSimHm
import Derived.Test.YtnpgfbgnbonhfaaRtrE
import Derived.Test.YtnpgfbgnbonhfaaOpenF
import Derived.Deep.RegionLaw
import Derived.ProofKit
import Derived.OpenShut
namespace Go.Proofs.Ytnpgfbgnbonhfaa.similarHalf
open Go.ChangeShapes Go.WideShapes Go.ChangeAt Go.RowKit
open BigFrame

section
set_option maxRecDepth 100000
set_option maxHeartbeats 4000000
theorem walk (a c : Int) (w : World) (_ha : (Lit.int .i64 a).wf = true) (_hc : (Lit.int .i64 c).wf = true) :
    Calls Try.prog 6 #[.int .i64 a, .int .i64 c] w fun e w' => e = .returned (.bool true) ∧ Below w.heap.size w w' := by
  clear _ha _hc
  obtain ⟨s, sq, st⟩ := low_mod a 20 (by omega) (by omega)
  rw [show ((20 : Nat) : Int) = 20 from rfl] at st
  obtain ⟨sw, sv, s1⟩ := low_in s (by omega)
  obtain ⟨p, pq, pt⟩ := low_mod c 20 (by omega) (by omega)
  rw [show ((20 : Nat) : Int) = 20 from rfl] at pt
  obtain ⟨pw, pv, p1⟩ := low_in p (by omega)
  obtain ⟨o, ho⟩ : ∃ o : Nat, p + 1 = o := ⟨_, rfl⟩
  have ow := (low_in (p + 1) (by omega)).1
  rw [ho] at p1 ow
  have HS := hid (half_bounds sq pq ho)
  have HADD := hid (fun (X Y : Txt) (h : X.length + Y.length ≤ 1000000) (wx : World) => run_str_add (P := Try.prog) X Y (Nat.le_trans h (by decide)) wx)
  have HB0 := hid (Below.refl w.heap.size w)
  go_enter Try.func6, Try.ntmps6
  go_wp2_with fail
  clear sw sv st s1 pw pv pt p1 ow ho sq pq
  go_loopg [5, 6, 7] s (fun g a b i wr => ∃ (k : Nat) (X : Txt), k ≤ s ∧ s - k = g ∧ a = .string ⟨X.toArray⟩ ∧ b = .string ⟨X.toArray⟩ ∧ i = .int .i64 k ∧ Hid (X = (hsS 115 k).flatten) ∧ Hid (Below w.heap.size w wr))
  case atStart => exact ⟨0, [], Nat.zero_le _, rfl, rfl, rfl, rfl, hid rfl, HB0⟩
  case round =>
    obtain ⟨k, X, hk, rfl, rfl, rfl, rfl, HX, HB⟩ := hrel
    have k0 : (0 : Int) ≤ (k : Int) := Int.natCast_nonneg _
    by_cases hlt : k < s
    · have k1 : (k : Int) < (s : Int) := by omega
      have kw : IntKind.i64.wrap ((k : Int) + 1) = (k : Int) + 1 := IntWalk.i64_in _ (by have := HS.out; omega)
      have hxl : X.length ≤ 5 * k := by rw [HX.out]; exact hs_flat 115 k
      have hdl := dig_len k
      have HD := hid (fun wy : World => Digits_any k wy (by have := HS.out; omega))
      have HX4 := hid (show X ++ [115] ++ digS k ++ [10] = (hsS 115 (k + 1)).flatten by rw [HX.out]; exact half_more k)
      have a1 := HADD.out X [115] (by simp only [List.length_singleton]; have := HS.out; omega)
      have a2 := HADD.out (X ++ [115]) (digS k) (by simp only [List.length_append, List.length_singleton]; have := HS.out; omega)
      have a3 := HADD.out (X ++ [115] ++ digS k) [10] (by simp only [List.length_append, List.length_singleton]; have := HS.out; omega)
      obtain ⟨X1, hX1⟩ : ∃ y, X ++ [115] = y := ⟨_, rfl⟩
      rw [hX1] at a1 a2 a3 HX4
      obtain ⟨D, hD⟩ : ∃ y, digS k = y := ⟨_, rfl⟩
      rw [hD] at a2 a3 HX4 HD
      obtain ⟨X2, hX2⟩ : ∃ y, X1 ++ D = y := ⟨_, rfl⟩
      rw [hX2] at a2 a3 HX4
      obtain ⟨X3, hX3⟩ : ∃ y, X2 ++ [10] = y := ⟨_, rfl⟩
      rw [hX3] at a3 HX4
      unfold strV at HD
      clear hX1 hX2 hX3 hD hdl hxl HX
      go_wp2_with fail
      refine (HD.out _).mono ?_
      rintro e x1 ⟨rfl, hb⟩
      have hB1 := hid (below_step HB.out hb HB.out.size)
      clear hb
      go_wp2_with fail
      refine (HD.out _).mono ?_
      rintro e x2 ⟨rfl, hb⟩
      have hB2 := hid (below_step hB1.out hb hB1.out.size)
      clear hb
      go_wp2_with fail
      go_roundg (s - (k + 1))
      case measure => omega
      case rel => exact ⟨k + 1, X3, by omega, rfl, rfl, rfl, by go_num, HX4, hB2⟩
    · obtain rfl : k = s := by omega
      have hneg : ¬ (k : Int) < (k : Int) := by omega
      have HXX := hid (show X = (hsS 115 k ++ hsS 97 0).flatten ∧ X = (hsS 115 k ++ hsS 98 0).flatten by rw [HX.out, hs_zero, hs_zero, List.append_nil]; exact ⟨rfl, rfl⟩)
      clear HX
      go_wp2_with fail
      go_loopg [5, 6, 8] o (fun g a b i wr => ∃ (j : Nat) (X Y : Txt), j ≤ o ∧ o - j = g ∧ a = .string ⟨X.toArray⟩ ∧ b = .string ⟨Y.toArray⟩ ∧ i = .int .i64 j ∧ Hid (X = (hsS 115 k ++ hsS 97 j).flatten ∧ Y = (hsS 115 k ++ hsS 98 j).flatten) ∧ Hid (Below w.heap.size w wr))
      case atStart => exact ⟨0, X, X, Nat.zero_le _, rfl, rfl, rfl, rfl, HXX, HB⟩
      case round =>
        clear HXX HB
        obtain ⟨j, X, Y, hj, rfl, rfl, rfl, rfl, HX, HB⟩ := hrel
        have j0 : (0 : Int) ≤ (j : Int) := Int.natCast_nonneg _
        by_cases hlj : j < o
        · have j1 : (j : Int) < (o : Int) := by omega
          have jw : IntKind.i64.wrap ((j : Int) + 1) = (j : Int) + 1 := IntWalk.i64_in _ (by have := HS.out; omega)
          have hxl : X.length ≤ 5 * k + 5 * j := by rw [HX.out.1]; exact half_len 97 k j
          have hyl : Y.length ≤ 5 * k + 5 * j := by rw [HX.out.2]; exact half_len 98 k j
          have hdl := dig_len j
          have HD := hid (fun wy : World => Digits_any j wy (by have := HS.out; omega))
          have HX4 := hid (show X ++ [97] ++ digS j ++ [10] = (hsS 115 k ++ hsS 97 (j + 1)).flatten ∧ Y ++ [98] ++ digS j ++ [10] = (hsS 115 k ++ hsS 98 (j + 1)).flatten by rw [HX.out.1, HX.out.2]; exact ⟨half_next 97 k j, half_next 98 k j⟩)
          have a1 := HADD.out X [97] (by simp only [List.length_singleton]; have := HS.out; omega)
          have a2 := HADD.out (X ++ [97]) (digS j) (by simp only [List.length_append, List.length_singleton]; have := HS.out; omega)
          have a3 := HADD.out (X ++ [97] ++ digS j) [10] (by simp only [List.length_append, List.length_singleton]; have := HS.out; omega)
          have b1 := HADD.out Y [98] (by simp only [List.length_singleton]; have := HS.out; omega)
          have b2 := HADD.out (Y ++ [98]) (digS j) (by simp only [List.length_append, List.length_singleton]; have := HS.out; omega)
          have b3 := HADD.out (Y ++ [98] ++ digS j) [10] (by simp only [List.length_append, List.length_singleton]; have := HS.out; omega)
          obtain ⟨X1, hX1⟩ : ∃ y, X ++ [97] = y := ⟨_, rfl⟩
          rw [hX1] at a1 a2 a3 HX4
          obtain ⟨Y1, hY1⟩ : ∃ y, Y ++ [98] = y := ⟨_, rfl⟩
          rw [hY1] at b1 b2 b3 HX4
          obtain ⟨D, hD⟩ : ∃ y, digS j = y := ⟨_, rfl⟩
          rw [hD] at a2 a3 b2 b3 HX4 HD
          obtain ⟨X2, hX2⟩ : ∃ y, X1 ++ D = y := ⟨_, rfl⟩
          rw [hX2] at a2 a3 HX4
          obtain ⟨Y2, hY2⟩ : ∃ y, Y1 ++ D = y := ⟨_, rfl⟩
          rw [hY2] at b2 b3 HX4
          obtain ⟨X3, hX3⟩ : ∃ y, X2 ++ [10] = y := ⟨_, rfl⟩
          rw [hX3] at a3 HX4
          obtain ⟨Y3, hY3⟩ : ∃ y, Y2 ++ [10] = y := ⟨_, rfl⟩
          rw [hY3] at b3 HX4
          unfold strV at HD
          clear hX1 hX2 hX3 hY1 hY2 hY3 hD hdl hxl hyl HX
          go_wp2_with fail
          refine (HD.out _).mono ?_
          rintro e x1 ⟨rfl, hb⟩
          have hB1 := hid (below_step HB.out hb HB.out.size)
          clear hb
          go_wp2_with fail
          refine (HD.out _).mono ?_
          rintro e x2 ⟨rfl, hb⟩
          have hB2 := hid (below_step hB1.out hb hB1.out.size)
          clear hb
          go_wp2_with fail
          go_roundg (o - (j + 1))
          case measure => omega
          case rel => exact ⟨j + 1, X3, Y3, by omega, rfl, rfl, rfl, by go_num, HX4, hB2⟩
        · obtain rfl : j = o := by omega
          have hnej : ¬ (j : Int) < (j : Int) := by omega
          obtain ⟨hx1, hy1⟩ := HX.out
          obtain ⟨hs1, ho1, ho2⟩ := HS.out
          have hxl : X.length ≤ 10000 := by rw [hx1]; have := half_len 97 k j; omega
          have hyl : Y.length ≤ 10000 := by rw [hy1]; have := half_len 98 k j; omega
          have hz : ratioS X Y = 100 * k / (k + j) := by rw [hx1, hy1]; exact half_ratio hs1 ho1 ho2
          have hne : X ≠ Y := by rw [hx1, hy1]; exact half_ne ho2
          have hX0 : X ≠ [] := by rw [hx1]; exact half_some ho2
          have hY0 : Y ≠ [] := by rw [hy1]; exact half_some ho2
          obtain ⟨z, hzz⟩ : ∃ z, ratioS X Y = z := ⟨_, rfl⟩
          have HR := hid (fun wy : World => DRatio_any X Y wy (by omega) (by omega))
          rw [hzz] at HR hz
          have HM := hid (fun (va vb : Value) (wy : World) (h1 : SlF wy va [([120], false, X)]) (h2 : SlF wy vb [([121], false, Y)]) => DRenames_any va vb _ _ wy h1 h2 (one_tree (ok_file (by decide +kernel) (by omega))) (one_tree (ok_file (by decide +kernel) (by omega))))
          have HT := hid (fun (r : List RenS) (h : RenOk [([120], false, X)] [([121], false, Y)] r) => show r = if 50 ≤ z then [([120], [121])] else [] by rw [← hzz]; exact h.two (by simp) hX0 hY0 hne)
          have HAW := hid (fun wy : World => awake_any wy)
          have w1 : IntKind.i64.wrap (100 * (k : Int)) = 100 * (k : Int) := IntWalk.i64_in _ (by omega)
          have w2 : IntKind.i64.wrap ((k : Int) + (j : Int)) = (k : Int) + (j : Int) := IntWalk.i64_in _ (by omega)
          have w0 : ¬ (k : Int) + (j : Int) = 0 := by omega
          have hz1 : z ≤ 100 * k := by rw [hz]; exact Nat.div_le_self _ _
          have w3 : Int.tdiv (100 * (k : Int)) ((k : Int) + (j : Int)) = (z : Int) := by
            rw [Int.tdiv_eq_ediv_of_nonneg (by omega), hz]
            norm_cast
          have w4 : IntKind.i64.wrap (z : Int) = (z : Int) := IntWalk.i64_in _ (by omega)
          clear hz hz1 hzz hne hX0 hY0 hx1 hy1 hs1 ho1 ho2 HX hxl hyl
          unfold strV at HR
          go_wp2_with fail
          refine (HR.out _).mono ?_
          rintro e x1 ⟨rfl, hb⟩
          have hB1 := hid (below_step HB.out hb HB.out.size)
          clear hb
          have HA := hid (show SlF ((x1.alloc (.cells #[.string ⟨#[120]⟩, .bool false, .string ⟨X.toArray⟩] 31)).alloc (.cells #[.string ⟨#[121]⟩, .bool false, .string ⟨Y.toArray⟩] 31)) (.slice (some ⟨x1.heap.size, 0, none⟩) 1 1) [([120], false, X)] from SlR.alloc (SlR.one (heap_alloc_new x1 _) rfl) _)
          have HC := hid (show SlF ((x1.alloc (.cells #[.string ⟨#[120]⟩, .bool false, .string ⟨X.toArray⟩] 31)).alloc (.cells #[.string ⟨#[121]⟩, .bool false, .string ⟨Y.toArray⟩] 31)) (.slice (some ⟨(x1.alloc (.cells #[.string ⟨#[120]⟩, .bool false, .string ⟨X.toArray⟩] 31)).heap.size, 0, none⟩) 1 1) [([121], false, Y)] from SlR.one (heap_alloc_new _ _) rfl)
          rw [show (x1.alloc (.cells #[.string ⟨#[120]⟩, .bool false, .string ⟨X.toArray⟩] 31)).heap.size = x1.heap.size + 1 by simp] at HC
          have hBA := hid ((hB1.out.alloc hB1.out.size (.cells #[.string ⟨#[120]⟩, .bool false, .string ⟨X.toArray⟩] 31)).alloc (Nat.le_trans hB1.out.size (by simp)) (.cells #[.string ⟨#[121]⟩, .bool false, .string ⟨Y.toArray⟩] 31))
          go_wp2_with fail
          refine (HM.out _ _ _ HA.out HC.out).mono ?_
          rintro e x2 ⟨v, r, rfl, hr, ho, hb⟩
          have hB2 := hid (below_step hBA.out hb hBA.out.size)
          have hrr := HT.out r hr
          obtain ⟨xo, xc, rfl⟩ := owns_form ho
          clear hr ho hb HM HT HA HC hBA HR
          by_cases h50 : 50 ≤ z
          · have d1 : decide ((50 : Int) ≤ (z : Int)) = true := decide_eq_true (by omega)
            have d2 : decide (50 ≤ z) = true := decide_eq_true h50
            have d3 : (50 : Int) ≤ (z : Int) := by omega
            rw [if_pos h50] at hrr
            subst hrr
            clear h50
            go_wp2_with fail
            refine (HAW.out _).mono ?_
            rintro e x3 ⟨rfl, hb⟩
            have hB3 := hid (below_step hB2.out hb hB2.out.size)
            clear hb
            go_wp2_with fail
            go_ret
            exact ⟨rfl, hB3.out⟩
          · have d1 : decide ((50 : Int) ≤ (z : Int)) = false := decide_eq_false (by omega)
            have d2 : decide (50 ≤ z) = false := decide_eq_false h50
            have d3 : ¬ (50 : Int) ≤ (z : Int) := by omega
            rw [if_neg h50] at hrr
            subst hrr
            clear h50
            go_wp2_with fail
            refine (HAW.out _).mono ?_
            rintro e x3 ⟨rfl, hb⟩
            have hB3 := hid (below_step hB2.out hb hB2.out.size)
            clear hb
            go_wp2_with fail
            go_ret
            exact ⟨rfl, hB3.out⟩
end

theorem own : ownKnob Try.prog.godebug = none := by kernel_rfl
theorem laidOut : laidOutB Try.prog = true := by kernel_rfl

set_option maxRecDepth 100000 in
theorem contract (H : Type) (enc : TypeId × Value → H) (W : World) (base : Nat) (args : Array Value) (ds gs : List (DataW H)) (before : List MemPlace)
    (hval : ∀ (j : Nat) t v, Try.f6.params[j]? = some t → args[j]? = some v → Value.okWide Try.prog W .any base t v)
    (hW : DataW.Whole enc Try.prog Try.f6.params.toList Rows.similarHalfSpec.vars false W args.toList ds gs before) :
    Calls Try.prog 6 args W fun e W' => ∃ v, e = .returned v ∧ Rows.similarHalfSpec.post enc Try.prog Try.f6 false true false false W args v W' := by
  have hW' := hW
  obtain ⟨p, q, hA0, hV, rfl, hfz, hnd⟩ := hW
  have hA : DataW.TrodAll enc Try.prog W 0 (fun _ => true) true Try.f6.params.toList args.toList ds p := hA0
  rw [Try.params6] at hA hval
  obtain ⟨v0, vs0, d0, ds0, p0, q0, hargs, rfl, rfl, h0, r0⟩ := trodAll_cons hA
  obtain ⟨v1, vs1, d1, ds1, p1, q1, rfl, rfl, rfl, h1, r1⟩ := trodAll_cons r0
  obtain ⟨rfl, rfl, rfl⟩ := trodAll_nil r1
  obtain rfl : args = #[v0, v1] := by cases args; simp_all
  obtain ⟨rfl, rfl⟩ := trodVars_none hV
  have k0 := h0
  have lt0 : ∀ x ∈ p0, x.block < W.heap.size := by obtain ⟨m, hm⟩ := k0; exact DataW.trod_lt m _ _ _ hm
  obtain ⟨a0, rfl, _, _, w0⟩ := open_int Try.underlying3 (hval 0 3 v0 rfl rfl) h0
  have k1 := h1
  have lt1 : ∀ x ∈ p1, x.block < W.heap.size := by obtain ⟨m, hm⟩ := k1; exact DataW.trod_lt m _ _ _ hm
  obtain ⟨a1, rfl, _, _, w1⟩ := open_int Try.underlying3 (hval 1 3 v1 rfl rfl) h1
  clear hA0
  refine (walk a0 a1 W w0 w1).mono fun e W' ⟨he, bel⟩ => ?_
  subst he
  exact ⟨_, rfl, _, _, _, [], _, [], hW', trodAll_mk1 (shut_bool Try.underlying4 _), (trodAll_cons_mk (Below.trod laidOut (by kernel_rfl) (of_decide_eq_true (by kernel_rfl)) k0 bel lt0) (trodAll_cons_mk (Below.trod laidOut (by kernel_rfl) (of_decide_eq_true (by kernel_rfl)) k1 bel lt1) trodAll_mk0)), rfl, bel.frame _, fun h => by cases h⟩

set_option maxRecDepth 100000 in
theorem lifted (os : Os) (started : os.Started) (H : Type) (enc : TypeId × Value → H) :
    ReturnsInHanded {} Try.checked os 6 .any (Rows.similarHalfSpec.pre6 enc Try.prog Try.f6 Rows.similarHalfRow.domain false) (Rows.similarHalfSpec.post enc Try.prog Try.f6 false true false false) := by
  refine returnsInHanded_of_change (C := Try.checked) own started (by kernel_rfl) Try.func6
    (ChangeSpec.witness6 (enc := enc) (C := Try.checked) false ⟨#[], #[.int .i64 0, .int .i64 0], []⟩ 8 (by kernel_rfl) (by kernel_rfl) (by kernel_rfl) (by kernel_rfl)) ?_
  intro W base args ds gs before hval hW _ _
  exact contract H enc W base args ds gs before hval hW

theorem over : Rows.similarHalfRow.holds Try.pinned (OpenSpec.ofChange Rows.similarHalfSpec) :=
  OpenClaim.holds_of_wide 6 Try.f6 rfl rfl rfl rfl rfl rfl rfl ⟨rfl, rfl, rfl, rfl, rfl⟩ rfl rfl rfl rfl rfl (by kernel_rfl) Try.func6 (by kernel_rfl)
    (of_decide_eq_true (by kernel_rfl)) (by unfold Func.isWrapper; first | (rw [if_pos (by decide +kernel)]; kernel_rfl) | (rw [if_neg (by decide +kernel)]; exact ⟨rfl, rfl⟩))
    (fun os started H enc _ => lifted os started H enc)

/-- The statement. -/
theorem proved : Rows.SimilarHalfSaid :=
  over
#print axioms proved

end Go.Proofs.Ytnpgfbgnbonhfaa.similarHalf
