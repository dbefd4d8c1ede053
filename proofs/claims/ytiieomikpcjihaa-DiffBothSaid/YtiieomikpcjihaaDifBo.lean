/-
  DiffBoth: of lists without a line in common all of the one is deleted, then all of the other one inserted.
-/
import Derived.Test.YtiieomikpcjihaaDifAw
import Derived.Test.YtiieomikpcjihaaInS
import Derived.Test.YtiieomikpcjihaaOpenS
import Derived.ProofKit
import Derived.OpenShut
namespace Go.Proofs.Ytiieomikpcjihaa.diffBoth
open Go.ChangeShapes Go.WideShapes Go.ChangeAt Go.RowKit

section
set_option maxRecDepth 100000
set_option maxHeartbeats 4000000
theorem walk_big (va vb : Value) (a b : List (List UInt8)) (w : World) (ha : FactStrs w va a) (hb : FactStrs w vb b) (hl : 60 < a.length ∨ 60 < b.length) :
    Calls Try.prog 8 #[va, vb] w fun e w' => e = .returned (.bool true) ∧ Below w.heap.size w w' := by
  obtain ⟨s1, _, _⟩ := ha
  obtain ⟨s2, _, _⟩ := hb
  obtain ⟨a1, c1, rfl⟩ := s1.form
  obtain ⟨a2, c2, rfl⟩ := s2.form
  rw [strCells_length, strCells_length]
  have hl' : (60 : Int) < (a.length : Int) ∨ (¬ (60 : Int) < (a.length : Int) ∧ (60 : Int) < (b.length : Int)) := by omega
  clear hl
  rcases hl' with h1 | ⟨h1, h2⟩
  all_goals
    go_enter Try.func8, Try.ntmps8
    go_wp2_with fail
    refine (awake_any w).mono ?_
    rintro e w1 ⟨rfl, hb1⟩
    go_wp2
    go_ret
    exact ⟨rfl, hb1⟩

theorem walk_at (va vb : Value) (a b : List (List UInt8)) (w : World) (ha : FactStrs w va a) (hb : FactStrs w vb b) (hal : a.length ≤ 60) (hbl : b.length ≤ 60) :
    Calls Try.prog 8 #[va, vb] w fun e w' => e = .returned (.bool true) ∧ Below w.heap.size w w' := by
  obtain ⟨s1, _, _⟩ := ha
  obtain ⟨s2, _, _⟩ := hb
  obtain ⟨a1, c1, rfl⟩ := s1.form
  obtain ⟨a2, c2, rfl⟩ := s2.form
  rw [strCells_length] at s1 s2 ⊢
  rw [strCells_length]
  have HS1 := hid s1
  have HS2 := hid s2
  obtain ⟨p, hp⟩ : ∃ p, a.length = p := ⟨_, rfl⟩
  obtain ⟨q, hq⟩ : ∃ q, b.length = q := ⟨_, rfl⟩
  have hg1 : ¬ (60 : Int) < (p : Int) := by omega
  have hg2 : ¬ (60 : Int) < (q : Int) := by omega
  have HP := hid hp
  have HQ := hid hq
  rw [hp] at hal ⊢
  rw [hq] at hbl ⊢
  clear hp hq s1 s2
  go_enter Try.func8, Try.ntmps8
  go_wp2_with fail
  go_loopg [5] p (fun g i wr => ∃ k : Nat, k ≤ p ∧ g = p - k ∧ i = .int .i64 k ∧ Hid (∀ x ∈ a.take k, x ∉ b) ∧ Hid (Below w.heap.size w wr))
  case atStart => exact ⟨0, Nat.zero_le _, rfl, rfl, hid (by simp), hid (Below.refl _ _)⟩
  case round =>
    obtain ⟨k, hk, rfl, rfl, HN, HB⟩ := hrel
    have kw : IntKind.i64.wrap ((k : Int) + 1) = (k : Int) + 1 := IntWalk.i64_in _ (by omega)
    have k0 : (0 : Int) ≤ (k : Int) := Int.natCast_nonneg _
    by_cases hlt : k < p
    · obtain ⟨aa, y, rfl, hc, hy⟩ := (Sl.old HS1.out HB.out).strAt' (i := k) (by rw [HP.out]; exact hlt)
      rw [HP.out] at *
      have k1 : (k : Int) < (p : Int) := by omega
      by_cases hyb : y ∈ b
      · have hA := SIn_any _ b y wr (by have := Sl.old HS2.out HB.out; rwa [HQ.out] at this) (by rw [HQ.out]; omega)
        rw [decide_eq_true hyb] at hA
        have HA := hid hA
        clear hA hy hyb
        go_wp2_with fail
        refine HA.out.mono ?_
        rintro e w1 ⟨rfl, n1, rfl⟩
        have hb1 := below_step HB.out (below_drewN wr n1) HB.out.size
        go_wp2_with fail
        refine (awake_any _).mono ?_
        rintro e w2 ⟨rfl, hb2⟩
        go_wp2
        go_ret
        exact ⟨rfl, below_step hb1 hb2 hb1.size⟩
      · have hA := SIn_any _ b y wr (by have := Sl.old HS2.out HB.out; rwa [HQ.out] at this) (by rw [HQ.out]; omega)
        rw [decide_eq_false hyb] at hA
        have HA := hid hA
        have HN' := hid (show ∀ x ∈ a.take (k + 1), x ∉ b by
          rw [take_snoc hy]
          intro x hx
          rcases List.mem_append.1 hx with h | h
          · exact HN.out x h
          · rw [List.mem_singleton.1 h]
            exact hyb)
        clear hA hy hyb
        go_wp2_with fail
        refine HA.out.mono ?_
        rintro e w1 ⟨rfl, n1, rfl⟩
        have hb1 := hid (below_step HB.out (below_drewN wr n1) HB.out.size)
        go_wp2
        go_roundg (p - (k + 1))
        case measure => omega
        case rel => exact ⟨k + 1, by omega, rfl, rfl, HN', hb1⟩
    · obtain rfl : k = p := by omega
      have hap : ∀ x ∈ a, x ∉ b := by
        have := HN.out
        rwa [List.take_of_length_le (by rw [HP.out]; omega)] at this
      obtain ⟨es, hes⟩ : ∃ es, (a.map fun x => ((2 : Int), x)) ++ b.map (fun y => ((3 : Int), y)) = es := ⟨_, rfl⟩
      have hlen : es.length = k + q := by rw [← hes, List.length_append, List.length_map, List.length_map, HP.out, HQ.out]
      have HSC := hid (show scriptS a b = es by rw [scriptS_short (by rw [HP.out]; omega) (by rw [HQ.out]; omega), goS_apart hap, hes])
      have HL0 := hid (show lcs a b = 0 from lcs_apart hap)
      have HE := hid hes
      have HM := hid hlen
      have hwq : IntKind.i64.wrap ((k : Int) + (q : Int)) = ((k + q : Nat) : Int) := (IntWalk.i64_in _ (by omega)).trans (by omega)
      have hne : (((k + q : Nat) : Int) != ((k + q : Nat) : Int)) = false := by simp
      obtain ⟨m, hm⟩ : ∃ m, k + q = m := ⟨_, rfl⟩
      have HKQ := hid hm
      have hm1 : m ≤ 120 := by omega
      rw [hm] at hlen hwq hne
      clear hes hap HN hlt kw k0 hm
      have s1 := Sl.old HS1.out HB.out
      have s2 := Sl.old HS2.out HB.out
      rw [HP.out] at s1
      rw [HQ.out] at s2
      have hA := DScript_any _ _ a b wr s1 s2 (by rw [HP.out]; omega) (by rw [HQ.out]; omega)
      rw [HSC.out] at hA
      have HA := hid hA
      clear hA s1 s2
      go_wp2_with fail
      refine HA.out.mono ?_
      rintro e w1 ⟨l, rfl, hl, hb1⟩
      have hl := hl.slE
      obtain ⟨al, cl, hf⟩ := hl.form
      rw [HM.out, HKQ.out] at hf
      subst hf
      have hb1 := below_step HB.out hb1 HB.out.size
      go_wp2_with fail
      refine (awake_any w1).mono ?_
      rintro e w2 ⟨rfl, hb2⟩
      have HL := hid (SlE.old hl hb2)
      have HB2 := hid (below_step hb1 hb2 hb1.size)
      clear hl hb1 hb2 HB HA
      go_wp2_with fail
      go_loopg [7] m (fun g i wr2 => ∃ j : Nat, j ≤ m ∧ g = m - j ∧ i = .int .i64 j ∧ Hid (Below w2.heap.size w2 wr2))
      case atStart => exact ⟨0, Nat.zero_le _, rfl, rfl, hid (Below.refl _ _)⟩
      case round =>
        obtain ⟨j, hj, rfl, rfl, HB3⟩ := hrel
        have jw : IntKind.i64.wrap ((j : Int) + 1) = (j : Int) + 1 := IntWalk.i64_in _ (by omega)
        have j0 : (0 : Int) ≤ (j : Int) := Int.natCast_nonneg _
        have hb3 := below_step HB2.out HB3.out HB2.out.size
        have hz3 := hb3.size
        by_cases hlt : j < m
        · have j1 : (j : Int) < (m : Int) := by omega
          have hl3 := SlE.old HL.out HB3.out
          obtain ⟨bb, bo, kk, xx, rfl, hc1, hc2, hx⟩ := hl3.at' (i := j) (by rw [HM.out, HKQ.out]; exact hlt)
          by_cases hja : j < k
          · have j2 : (j : Int) < (k : Int) := by omega
            have bA := (Below.refl wr.heap.size wr).alloc (Nat.le_refl _) (.cells #[.int .i64 3, .string ⟨#[]⟩] 29)
            obtain ⟨a3, y, rfl, hcy, hy⟩ := (Sl.old (Sl.old HS1.out hb3) (by
              have := hb3.size
              exact bA)).strAt' (i := j) (by rw [HP.out]; exact hja)
            have hxy : es[j]? = some (2, y) := by
              rw [← HE.out, List.getElem?_append_left (by rw [List.length_map, HP.out]; exact hja), List.getElem?_map, hy]
              rfl
            obtain ⟨rfl, rfl⟩ : kk = 2 ∧ xx = y := by
              rw [hxy] at hx
              simpa using hx.symm
            clear hx hy hxy bA
            have bA := hid (below_step HB3.out ((Below.refl wr.heap.size wr).alloc (Nat.le_refl _) (.cells #[.int .i64 2, .string ⟨xx.toArray⟩] 29)) HB3.out.size)
            have hg := heap_alloc_new wr (.cells #[.int .i64 2, .string ⟨xx.toArray⟩] 29)
            have hc1' : (wr.alloc (.cells #[.int .i64 2, .string ⟨xx.toArray⟩] 29)).cell? ⟨bb, bo + j * 2, none⟩ = _ := (World.cell?_of_block (w := wr) (Below.heap_alloc wr _ _ (World.block_lt_of_cell? wr _ hc1))).trans hc1
            have hc2' : (wr.alloc (.cells #[.int .i64 2, .string ⟨xx.toArray⟩] 29)).cell? ⟨bb, bo + j * 2 + 1, none⟩ = _ := (World.cell?_of_block (w := wr) (Below.heap_alloc wr _ _ (World.block_lt_of_cell? wr _ hc2))).trans hc2
            have he1 := blk_cell (i := 0) hg rfl
            have he2 := blk_cell (i := 1) hg rfl
            clear hg hb3 hl3
            go_wp2_with fail
            generalize wr.alloc (.cells #[.int .i64 2, .string ⟨xx.toArray⟩] 29) = wz at bA hc1' hc2' he1 he2 ⊢
            go_quiet (fail)
            have bA' := hid (below_step bA.out (below_drewN wz nq) bA.out.size)
            generalize wz.drewN nq = wq at bA' ⊢
            clear hc1' hc2' he1 he2
            go_wp2
            go_roundg (m - (j + 1))
            case measure => omega
            case rel => exact ⟨j + 1, by omega, rfl, rfl, bA'⟩
          · have j2 : ¬ (j : Int) < (k : Int) := by omega
            obtain ⟨t, rfl⟩ : ∃ t, j = k + t := ⟨j - k, by omega⟩
            have tw : IntKind.i64.wrap (((k + t : Nat) : Int) - (k : Int)) = (t : Int) := (IntWalk.i64_in _ (by omega)).trans (by omega)
            have htq : t < q := by have := HKQ.out; omega
            have t0 : (0 : Int) ≤ (t : Int) := Int.natCast_nonneg _
            have t1 : (t : Int) < (q : Int) := by omega
            have bA := (Below.refl wr.heap.size wr).alloc (Nat.le_refl _) (.cells #[.int .i64 3, .string ⟨#[]⟩] 29)
            obtain ⟨a3, y, rfl, hcy, hy⟩ := (Sl.old (Sl.old HS2.out hb3) bA).strAt' (i := t) (by rw [HQ.out]; exact htq)
            have hxy : es[k + t]? = some (3, y) := by
              rw [← HE.out, List.getElem?_append_right (by rw [List.length_map, HP.out]; omega), List.length_map, HP.out, Nat.add_sub_cancel_left, List.getElem?_map, hy]
              rfl
            obtain ⟨rfl, rfl⟩ : kk = 3 ∧ xx = y := by
              rw [hxy] at hx
              simpa using hx.symm
            clear hx hy hxy bA
            obtain ⟨j, hj'⟩ : ∃ j, k + t = j := ⟨_, rfl⟩
            rw [hj'] at tw hc1 hc2 jw j0 j1 j2 ⊢
            have HJ := hid hj'
            clear hj'
            have bA := hid (below_step HB3.out ((Below.refl wr.heap.size wr).alloc (Nat.le_refl _) (.cells #[.int .i64 3, .string ⟨xx.toArray⟩] 29)) HB3.out.size)
            have hg := heap_alloc_new wr (.cells #[.int .i64 3, .string ⟨xx.toArray⟩] 29)
            have hc1' : (wr.alloc (.cells #[.int .i64 3, .string ⟨xx.toArray⟩] 29)).cell? ⟨bb, bo + j * 2, none⟩ = _ := (World.cell?_of_block (w := wr) (Below.heap_alloc wr _ _ (World.block_lt_of_cell? wr _ hc1))).trans hc1
            have hc2' : (wr.alloc (.cells #[.int .i64 3, .string ⟨xx.toArray⟩] 29)).cell? ⟨bb, bo + j * 2 + 1, none⟩ = _ := (World.cell?_of_block (w := wr) (Below.heap_alloc wr _ _ (World.block_lt_of_cell? wr _ hc2))).trans hc2
            have he1 := blk_cell (i := 0) hg rfl
            have he2 := blk_cell (i := 1) hg rfl
            clear hg hb3 hl3
            go_wp2_with fail
            generalize wr.alloc (.cells #[.int .i64 3, .string ⟨xx.toArray⟩] 29) = wz at bA hc1' hc2' he1 he2 ⊢
            go_quiet (fail)
            have bA' := hid (below_step bA.out (below_drewN wz nq) bA.out.size)
            generalize wz.drewN nq = wq at bA' ⊢
            clear hc1' hc2' he1 he2
            go_wp2
            go_roundg (m - (j + 1))
            case measure => have := HJ.out; omega
            case rel => exact ⟨j + 1, by have := HJ.out; omega, rfl, rfl, bA'⟩
        · obtain rfl : j = m := by omega
          have s1 := Sl.old HS1.out hb3
          have s2 := Sl.old HS2.out hb3
          rw [HP.out] at s1
          rw [HQ.out] at s2
          have hA := DCommon_any _ _ a b wr s1 s2 (by rw [HP.out]; omega) (by rw [HQ.out]; omega)
          rw [HL0.out] at hA
          have HA := hid hA
          clear hA s1 s2 hlt
          go_wp2_with fail
          refine HA.out.mono ?_
          rintro e w9 ⟨rfl, hb9⟩
          go_wp2
          go_ret
          exact ⟨rfl, below_step hb3 hb9 hz3⟩

theorem walk (va : Value) (a : List (List UInt8)) (vb : Value) (b : List (List UInt8)) (w : World) (ha : FactStrs w va a) (hb : FactStrs w vb b) :
    Calls Try.prog 8 #[va, vb] w fun e w' => e = .returned (.bool true) ∧ Below w.heap.size w w' := by
  by_cases h : 60 < a.length ∨ 60 < b.length
  · exact walk_big va vb a b w ha hb h
  · exact walk_at va vb a b w ha hb (by omega) (by omega)
end

theorem own : ownKnob Try.prog.godebug = none := by kernel_rfl
theorem laidOut : laidOutB Try.prog = true := by kernel_rfl

theorem contract (H : Type) (enc : TypeId × Value → H) (W : World) (base : Nat) (args : Array Value) (ds gs : List (DataW H)) (before : List MemPlace)
    (hval : ∀ (j : Nat) t v, Try.f8.params[j]? = some t → args[j]? = some v → Value.okWide Try.prog W .any base t v)
    (hW : DataW.Whole enc Try.prog Try.f8.params.toList Rows.diffBothSpec.vars false W args.toList ds gs before) :
    Calls Try.prog 8 args W fun e W' => ∃ v, e = .returned v ∧ Rows.diffBothSpec.post enc Try.prog Try.f8 false true false false W args v W' := by
  have hW' := hW
  obtain ⟨p, q, hA0, hV, rfl, hfz, hnd⟩ := hW
  have hA : DataW.TrodAll enc Try.prog W 0 (fun _ => true) true Try.f8.params.toList args.toList ds p := hA0
  rw [Try.params8] at hA hval
  obtain ⟨v0, vs0, d0, ds0, p0, q0, hargs, rfl, rfl, h0, r0⟩ := trodAll_cons hA
  obtain ⟨v1, vs1, d1, ds1, p1, q1, rfl, rfl, rfl, h1, r1⟩ := trodAll_cons r0
  obtain ⟨rfl, rfl, rfl⟩ := trodAll_nil r1
  obtain rfl : args = #[v0, v1] := by cases args; simp_all
  obtain ⟨rfl, rfl⟩ := trodVars_none hV
  have k0 := h0
  have lt0 : ∀ x ∈ p0, x.block < W.heap.size := by obtain ⟨m, hm⟩ := k0; exact DataW.trod_lt m _ _ _ hm
  obtain ⟨x0, l0, c0, rfl⟩ := okWide_slice Try.underlying22 (hval 0 22 v0 rfl rfl)
  obtain ⟨a0, w0, e0⟩ : ∃ a, FactStrs W (.slice x0 l0 c0) a ∧ ((d0 = .nil ∧ a = []) ∨ ∃ rest, d0 = .slice (dataStrs a) rest) := by
    obtain ⟨fuel, hf⟩ := h0
    obtain ⟨v', a, hcs, hs, hx⟩ := open_strL Try.underlying22 Try.underlying9 (by kernel_rfl) hf
    obtain rfl : v' = .slice x0 l0 c0 := by simpa [Value.cells] using hcs.symm
    exact ⟨a, hs, hx⟩
  clear e0
  have k1 := h1
  have lt1 : ∀ x ∈ p1, x.block < W.heap.size := by obtain ⟨m, hm⟩ := k1; exact DataW.trod_lt m _ _ _ hm
  obtain ⟨x1, l1, c1, rfl⟩ := okWide_slice Try.underlying22 (hval 1 22 v1 rfl rfl)
  obtain ⟨a1, w1, e1⟩ : ∃ a, FactStrs W (.slice x1 l1 c1) a ∧ ((d1 = .nil ∧ a = []) ∨ ∃ rest, d1 = .slice (dataStrs a) rest) := by
    obtain ⟨fuel, hf⟩ := h1
    obtain ⟨v', a, hcs, hs, hx⟩ := open_strL Try.underlying22 Try.underlying9 (by kernel_rfl) hf
    obtain rfl : v' = .slice x1 l1 c1 := by simpa [Value.cells] using hcs.symm
    exact ⟨a, hs, hx⟩
  clear e1
  clear hA0
  refine (walk (.slice x0 l0 c0) a0 (.slice x1 l1 c1) a1 W w0 w1).mono fun e W' ⟨he, bel⟩ => ?_
  subst he
  exact ⟨_, rfl, _, _, _, [], _, [], hW', trodAll_mk1 (shut_bool Try.underlying4 _), (trodAll_cons_mk (Below.trod laidOut (by kernel_rfl) (of_decide_eq_true (by kernel_rfl)) k0 bel lt0) (trodAll_cons_mk (Below.trod laidOut (by kernel_rfl) (of_decide_eq_true (by kernel_rfl)) k1 bel lt1) trodAll_mk0)), rfl, bel.frame _, fun h => by cases h⟩

set_option maxRecDepth 100000 in
theorem lifted (os : Os) (started : os.Started) (H : Type) (enc : TypeId × Value → H) :
    ReturnsInHanded {} Try.checked os 8 .any (Rows.diffBothSpec.pre6 enc Try.prog Try.f8 Rows.diffBothRow.domain false) (Rows.diffBothSpec.post enc Try.prog Try.f8 false true false false) := by
  refine returnsInHanded_of_change (C := Try.checked) own started (by kernel_rfl) Try.func8
    (ChangeSpec.witness6 (enc := enc) (C := Try.checked) false ⟨#[], #[.slice none 0 0, .slice none 0 0], []⟩ 8 (by kernel_rfl) (by kernel_rfl) (by kernel_rfl) (by kernel_rfl)) ?_
  intro W base args ds gs before hval hW _ _
  exact contract H enc W base args ds gs before hval hW

theorem over : Rows.diffBothRow.holds Try.pinned (OpenSpec.ofChange Rows.diffBothSpec) :=
  OpenClaim.holds_of_wide 8 Try.f8 rfl rfl rfl rfl rfl rfl rfl ⟨rfl, rfl, rfl, rfl, rfl⟩ rfl rfl rfl rfl rfl (by kernel_rfl) Try.func8 (by kernel_rfl)
    (of_decide_eq_true (by kernel_rfl)) (by unfold Func.isWrapper; first | (rw [if_pos (by decide +kernel)]; kernel_rfl) | (rw [if_neg (by decide +kernel)]; exact ⟨rfl, rfl⟩))
    (fun os started H enc _ => lifted os started H enc)

/-- The statement. -/
theorem proved : Rows.DiffBothSaid :=
  over
#print axioms proved
end Go.Proofs.Ytiieomikpcjihaa.diffBoth
