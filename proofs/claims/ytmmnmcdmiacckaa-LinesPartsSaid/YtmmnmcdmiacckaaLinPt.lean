/-
  LinesParts: for every list of lines: texts that end with a line's end are split one by one as at once.
-/
import Derived.Test.YtmmnmcdmiacckaaLinAw
import Derived.Test.YtmmnmcdmiacckaaLinE
import Derived.Test.YtmmnmcdmiacckaaOpenS
import Derived.ProofKit
import Derived.OpenShut
import Derived.Deep.LoopGhost
namespace Go.Proofs.Ytmmnmcdmiacckaa.linesParts
open Go.ChangeShapes Go.WideShapes Go.ChangeAt Go.RowKit

section
set_option maxRecDepth 100000
set_option maxHeartbeats 2000000
theorem walk_big (v : Value) (l : List (List UInt8)) (w : World) (h : FactStrs w v l) (hl : 20 < l.length) :
    Calls Try.prog 6 #[v] w fun e w' => e = .returned (.bool true) ∧ Below w.heap.size w w' := by
  obtain ⟨s1, l1, _⟩ := h
  obtain ⟨a1, c1, rfl⟩ := s1.form
  rw [strCells_length] at s1 ⊢
  unfold maxLen at l1
  have hb' : (20 : Int) < (l.length : Int) := by omega
  clear hl
  go_enter Try.func6, Try.ntmps6
  go_wp2_with fail
  refine (awake_any w).mono ?_
  rintro e w1 ⟨rfl, hb1⟩
  go_wp2
  go_ret
  exact ⟨rfl, hb1⟩

theorem walk_at (v : Value) (l : List (List UInt8)) (w : World) (h : FactStrs w v l) (hl : l.length ≤ 20) :
    Calls Try.prog 6 #[v] w fun e w' => e = .returned (.bool true) ∧ Below w.heap.size w w' := by
  obtain ⟨i0, hi0, hi1, hi2, hi3⟩ := info_parts Try.infoStr
  obtain ⟨s1, l1, lx⟩ := h
  obtain ⟨a1, c1, rfl⟩ := s1.form
  rw [strCells_length] at s1 ⊢
  have HLX := hid lx
  have hb' : ¬ (20 : Int) < (l.length : Int) := by omega
  clear l1 lx
  go_enter Try.func6, Try.ntmps6
  go_wp2_with fail
  go_loopg [3, 4, 5] l.length (fun g al wa i wr => ∃ (k : Nat) (A : List UInt8), k ≤ l.length ∧ g = l.length - k ∧ i = .int .i64 k ∧ al = .string ⟨A.toArray⟩ ∧ A.length ≤ 101 * k ∧ Hid (Closed A) ∧ wr.ownsRow w.heap.size 9 1 wa (linesOf A).length (strCells (linesOf A)) ∧ Below w.heap.size w wr)
  case atStart => exact ⟨0, [], Nat.zero_le _, rfl, rfl, rfl, Nat.le_refl _, hid (.inl rfl), World.ownsRow_nil _ _ _ _, Below.refl _ _⟩
  case round =>
    obtain ⟨k, A, hk, rfl, rfl, rfl, hA, HC, hown, hbel⟩ := hrel
    have hz := hbel.size
    have hcn := linesOf_count A
    by_cases hlt : k < l.length
    · obtain ⟨a, x, rfl, hc, hx⟩ := (Sl.old s1 hbel).strAt' (i := k) hlt
      have hxm := HLX.out x (List.mem_of_getElem? hx)
      unfold maxLen at hxm
      have k0 : (0 : Int) ≤ (k : Int) := Int.natCast_nonneg _
      have k1 : (k : Int) < (l.length : Int) := by omega
      have kw : IntKind.i64.wrap ((k : Int) + 1) = (k : Int) + 1 := IntWalk.i64_in _ (by omega)
      by_cases h100 : 100 < x.length
      · have h1 : (100 : Int) < (x.length : Int) := by omega
        clear h100 hx
        go_wp2_with fail
        refine (awake_any wr).mono ?_
        rintro e w1 ⟨rfl, hb1⟩
        go_wp2
        go_ret
        exact ⟨rfl, below_step hbel hb1 hz⟩
      · have h1 : ¬ (100 : Int) < (x.length : Int) := by omega
        obtain ⟨y, hy⟩ : ∃ y, x ++ [10] = y := ⟨_, rfl⟩
        have hyl : y.length = x.length + 1 := by rw [← hy]; simp
        obtain ⟨B, hB⟩ : ∃ B, A ++ y = B := ⟨_, rfl⟩
        have hBl : B.length = A.length + y.length := by rw [← hB, List.length_append]
        have hcl : Closed B := by rw [← hB, ← hy]; exact Closed.line A x
        have hLB : linesOf B = linesOf A ++ linesOf y := by rw [← hB]; exact linesOf_closed HC.out y
        have ha1 : ∀ wx, (Op.stringOp .add ⟨x.toArray⟩ ⟨#[10]⟩).run Try.prog wx = .ok (.string ⟨y.toArray⟩) wx := by rw [← hy]; exact run_str_add x [10] (by simp; omega)
        have ha2 : ∀ wx, (Op.stringOp .add ⟨A.toArray⟩ ⟨y.toArray⟩).run Try.prog wx = .ok (.string ⟨B.toArray⟩) wx := by rw [← hB]; exact run_str_add A y (by omega)
        have hcy := linesOf_count y
        obtain ⟨LA, hLA⟩ : ∃ LA, linesOf A = LA := ⟨_, rfl⟩
        obtain ⟨LY, hLY⟩ : ∃ LY, linesOf y = LY := ⟨_, rfl⟩
        rw [hLA] at hown hcn hLB
        rw [hLY] at hcy hLB
        have HLB := hid hLB
        have HLY := hid hLY
        have HCB := hid hcl
        have g3 : LA.length + LY.length ≤ maxLen := by unfold maxLen; omega
        have g4 : (LA.length + LY.length) * 16 ≤ 140737488355328 := by omega
        obtain ⟨al, cl, hof⟩ := owns_form hown
        subst hof
        clear hy hB hLB hLA hLY hx hcl h100
        go_wp2_with fail
        refine (PSplit_any y wr (by omega)).mono ?_
        rw [HLY.out]
        rintro e w1 ⟨v1, rfl, hv1, hb1⟩
        have hbw1 := below_step hbel hb1 hz
        have hz1 := hbw1.size
        have hown1 : w1.ownsRow w.heap.size 9 1 (Value.slice al LA.length cl) LA.length (strCells LA) := (Keep.ofBelow (S := fun _ => False) hb1).owns hown fun _ _ h => h
        obtain ⟨ay, cy, hyf⟩ := hv1.form
        rw [strCells_length] at hyf
        subst hyf
        clear hown
        go_wp2_with (refine wpList_append_any _ rfl (.tmp 32) (.tmp 34) _ _ rfl w.heap.size 9 i0 _ 1 16 Try.underlying22 hi0 hi1 hi2 hi3 rfl (by omega) (.slice al LA.length cl) _ _ rfl hown1 _ _ _ rfl (hv1.src Try.underlying22 (str_one _)) (by rw [strCells_length]; exact g3) (by rw [strCells_length]; exact g4) hz1 ?_; intro v5 w5 hown5 hgrow5 hat5)
        have hb5 : Below w.heap.size w w5 := hbw1.grown hgrow5 hz1 (fun j hj => (hown1.lt j hj).1)
        have R : w5.ownsRow w.heap.size 9 1 v5 (linesOf B).length (strCells (linesOf B)) := by
          rw [strCells_length] at hown5
          rw [HLB.out, strCells_append, List.length_append]
          exact hown5
        clear hown5 hgrow5 hat5 hown1
        go_roundg (l.length - (k + 1))
        case measure => omega
        case rel => exact ⟨k + 1, B, by omega, rfl, by go_num, rfl, by omega, HCB, R, hb5⟩
    · obtain rfl : k = l.length := by omega
      have hlt' : ¬ (l.length : Int) < (l.length : Int) := by omega
      have hja := linesOf_join A
      obtain ⟨LA, hLA⟩ : ∃ LA, linesOf A = LA := ⟨_, rfl⟩
      rw [hLA] at hown hcn hja
      have HLA := hid hLA
      have HJA := hid hja
      obtain ⟨al, cl, hof⟩ := owns_form hown
      subst hof
      have hsl := Sl.ofOwns hown
      clear hLA hja hown hlt
      go_wp2_with fail
      refine (awake_any wr).mono ?_
      rintro e w1 ⟨rfl, hb1⟩
      have hbw1 := below_step hbel hb1 hz
      go_wp2_with fail
      refine (PSplit_any A w1 (by omega)).mono ?_
      rw [HLA.out]
      rintro e w2 ⟨v2, rfl, hv2, hb2⟩
      have hbw2 := below_step hbw1 hb2 hbw1.size
      have hs2 := Sl.old (Sl.old hsl hb1) hb2
      go_wp2_with fail
      refine (SPlain_any _ _ LA LA w2 hv2 hs2 (by unfold maxLen; omega)).mono ?_
      rw [show (LA == LA) = true by simp]
      rintro e w3 ⟨rfl, q, rfl⟩
      have hd := below_drewN w2 q
      have hbw3 := below_step hbw2 hd hbw2.size
      have hs3 := Sl.old hs2 hd
      generalize w2.drewN q = w3 at hbw3 hs3 ⊢
      clear hv2 hs2 hd hsl
      go_wp2_with fail
      refine (PWhole_any _ LA w3 hs3 (by rw [HJA.out]; omega) (by omega)).mono ?_
      rw [HJA.out, HLA.out, show (LA == LA) = true by simp]
      rintro e w4 ⟨rfl, hb4⟩
      have hbw4 := below_step hbw3 hb4 hbw3.size
      clear hs3
      have s5 : Sl (w4.alloc (.cells #[.string ⟨#[]⟩] 9)) (.slice (some ⟨w4.heap.size, 0, none⟩) 1 1) (strCells [[]]) := Sl.ofBlock (heap_alloc_new w4 (.cells #[.string ⟨#[]⟩] 9))
      have hbw5 : Below w.heap.size w (w4.alloc (.cells #[.string ⟨#[]⟩] 9)) := hbw4.alloc hbw4.size _
      go_wp2_with fail
      refine (PWhole_any _ [[]] _ s5 (by decide) (by decide)).mono ?_
      rw [show (linesOf ([[]] : List (List UInt8)).flatten == [[]]) = false from by decide]
      rintro e w6 ⟨rfl, hb6⟩
      have hbw6 := below_step hbw5 hb6 hbw5.size
      have s7 := Sl.lit2 w6 [97] [98] 9
      have hbw7 : Below w.heap.size w (w6.alloc (.cells #[.string ⟨#[97]⟩, .string ⟨#[98]⟩] 9)) := hbw6.alloc hbw6.size _
      go_wp2_with fail
      refine (PWhole_any _ [[97], [98]] _ s7 (by decide) (by decide)).mono ?_
      rw [show (linesOf ([[97], [98]] : List (List UInt8)).flatten == [[97], [98]]) = false from by decide]
      rintro e w8 ⟨rfl, hb8⟩
      have hbw8 := below_step hbw7 hb8 hbw7.size
      go_wp2
      go_ret
      exact ⟨rfl, hbw8⟩

theorem walk (v : Value) (l : List (List UInt8)) (w : World) (h : FactStrs w v l) :
    Calls Try.prog 6 #[v] w fun e w' => e = .returned (.bool true) ∧ Below w.heap.size w w' := by
  by_cases hl : l.length ≤ 20
  · exact walk_at v l w h hl
  · exact walk_big v l w h (by omega)
end

theorem own : ownKnob Try.prog.godebug = none := by kernel_rfl
theorem laidOut : laidOutB Try.prog = true := by kernel_rfl

theorem contract (H : Type) (enc : TypeId × Value → H) (W : World) (base : Nat) (args : Array Value) (ds gs : List (DataW H)) (before : List MemPlace)
    (hval : ∀ (j : Nat) t v, Try.f6.params[j]? = some t → args[j]? = some v → Value.okWide Try.prog W .any base t v)
    (hW : DataW.Whole enc Try.prog Try.f6.params.toList Rows.linesPartsSpec.vars false W args.toList ds gs before) :
    Calls Try.prog 6 args W fun e W' => ∃ v, e = .returned v ∧ Rows.linesPartsSpec.post enc Try.prog Try.f6 false true false false W args v W' := by
  have hW' := hW
  obtain ⟨p, q, hA0, hV, rfl, hfz, hnd⟩ := hW
  have hA : DataW.TrodAll enc Try.prog W 0 (fun _ => true) true Try.f6.params.toList args.toList ds p := hA0
  rw [Try.params6] at hA hval
  obtain ⟨v0, vs0, d0, ds0, p0, q0, hargs, rfl, rfl, h0, r0⟩ := trodAll_cons hA
  obtain ⟨rfl, rfl, rfl⟩ := trodAll_nil r0
  obtain rfl : args = #[v0] := by cases args; simp_all
  obtain ⟨rfl, rfl⟩ := trodVars_none hV
  have k0 := h0
  have lt0 : ∀ x ∈ p0, x.block < W.heap.size := by obtain ⟨m, hm⟩ := k0; exact DataW.trod_lt m _ _ _ hm
  obtain ⟨x0, l0, c0, rfl⟩ := okWide_slice Try.underlying22 (hval 0 22 v0 rfl rfl)
  obtain ⟨a0, w0, e0⟩ : ∃ a, FactStrs W (.slice x0 l0 c0) a ∧ ((d0 = .nil ∧ a = []) ∨ ∃ rest, d0 = .slice (dataStrs a) rest) := by
    obtain ⟨fuel, hf⟩ := h0
    obtain ⟨v', a, hcs, hs, hx⟩ := open_strL Try.underlying22 Try.underlying9 (by kernel_rfl) hf
    obtain rfl : v' = .slice x0 l0 c0 := by simpa [Value.cells] using hcs.symm
    exact ⟨a, hs, hx⟩
  clear e0
  clear hA0
  refine (walk (.slice x0 l0 c0) a0 W w0).mono fun e W' ⟨he, bel⟩ => ?_
  subst he
  exact ⟨_, rfl, _, _, _, [], _, [], hW', trodAll_mk1 (shut_bool Try.underlying4 _), (trodAll_cons_mk (Below.trod laidOut (by kernel_rfl) (of_decide_eq_true (by kernel_rfl)) k0 bel lt0) trodAll_mk0), rfl, bel.frame _, fun h => by cases h⟩

set_option maxRecDepth 100000 in
theorem lifted (os : Os) (started : os.Started) (H : Type) (enc : TypeId × Value → H) :
    ReturnsInHanded {} Try.checked os 6 .any (Rows.linesPartsSpec.pre6 enc Try.prog Try.f6 Rows.linesPartsRow.domain false) (Rows.linesPartsSpec.post enc Try.prog Try.f6 false true false false) := by
  refine returnsInHanded_of_change (C := Try.checked) own started (by kernel_rfl) Try.func6
    (ChangeSpec.witness6 (enc := enc) (C := Try.checked) false ⟨#[], #[.slice none 0 0], []⟩ 8 (by kernel_rfl) (by kernel_rfl) (by kernel_rfl) (by kernel_rfl)) ?_
  intro W base args ds gs before hval hW _ _
  exact contract H enc W base args ds gs before hval hW

theorem over : Rows.linesPartsRow.holds Try.pinned (OpenSpec.ofChange Rows.linesPartsSpec) :=
  OpenClaim.holds_of_wide 6 Try.f6 rfl rfl rfl rfl rfl rfl rfl ⟨rfl, rfl, rfl, rfl, rfl⟩ rfl rfl rfl rfl rfl (by kernel_rfl) Try.func6 (by kernel_rfl)
    (of_decide_eq_true (by kernel_rfl)) (by unfold Func.isWrapper; first | (rw [if_pos (by decide +kernel)]; kernel_rfl) | (rw [if_neg (by decide +kernel)]; exact ⟨rfl, rfl⟩))
    (fun os started H enc _ => lifted os started H enc)

/-- The statement. -/
theorem proved : Rows.LinesPartsSaid :=
  over
#print axioms proved
end Go.Proofs.Ytmmnmcdmiacckaa.linesParts
