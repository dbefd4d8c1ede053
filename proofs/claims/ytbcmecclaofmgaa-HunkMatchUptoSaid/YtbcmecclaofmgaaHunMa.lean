/-
  HunkMatch: a hunk whose lines do not stand there is refused, and so is one beyond the end, or ahead of the one ahead of it.
-/
import Derived.Test.YtbcmecclaofmgaaHkAw
import Derived.Test.YtbcmecclaofmgaaStr
import Derived.Test.YtbcmecclaofmgaaMod
import Derived.Test.YtbcmecclaofmgaaOpenS
import Derived.Test.YtbcmecclaofmgaaEdB
import Derived.Test.YtbcmecclaofmgaaBulk
import Derived.Deep.RegionHeld3
import Derived.ProofKit
import Derived.OpenShut
namespace Go.Proofs.Ytbcmecclaofmgaa.hunkMatch
open Go.ChangeShapes Go.WideShapes Go.ChangeAt Go.RowKit

theorem litH2 {w : World} {b : Nat} {t : TypeId} {fr : Nat × Nat} {k j : Int} {vo vn uo un : Value} {old new old2 new2 : List (List UInt8)} (h : w.heap[b]? = some (.cells #[.int .i64 k, vo, vn, .int .i64 j, uo, un] t fr)) (h1 : Sl w vo (strCells old)) (h2 : Sl w vn (strCells new)) (h3 : Sl w uo (strCells old2)) (h4 : Sl w un (strCells new2)) :
    SlH w (.slice (some ⟨b, 0, none⟩) 2 2) [(k, old, new), (j, old2, new2)] := by
  refine ⟨some ⟨b, 0, none⟩, 2, rfl, (fun h => by cases h), Nat.le_refl _, fun a ha i x hx => ?_⟩
  cases ha
  have c : ∀ {q : Nat} {u : Value}, (#[.int .i64 k, vo, vn, .int .i64 j, uo, un] : Array Value)[q]? = some u → w.cell? ⟨b, q, none⟩ = some u := fun {q u} hu => by simp [World.cell?, h, hu]
  have e : ∀ q, (⟨b, 0, none⟩ : Addr).add q = ⟨b, q, none⟩ := fun q => by rw [Addr.add_lit, Nat.zero_add]
  match i, hx with
  | 0, hx =>
    cases hx
    exact ⟨vo, vn, by rw [e]; exact c rfl, by rw [e]; exact c rfl, by rw [e]; exact c rfl, h1, h2⟩
  | 1, hx =>
    cases hx
    exact ⟨uo, un, by rw [e]; exact c rfl, by rw [e]; exact c rfl, by rw [e]; exact c rfl, h3, h4⟩
theorem part_le {a : List (List UInt8)} {y : List UInt8} (h : y ∈ a) : y.length ≤ a.flatten.length := by
  induction a with
  | nil => cases h
  | cons z a ih =>
    rw [List.flatten_cons, List.length_append]
    rcases List.mem_cons.1 h with rfl | h
    · omega
    · have := ih h
      omega
/-- what the five applications answer -/
theorem refuses {a : List (List UInt8)} {k : Nat} {O : List UInt8} (hk : k ≤ a.length) (hl : a.length ≤ 50) (hO : ∀ y, a[k]? = some y → y ≠ O) :
    applyS a [((k : Int), [O], [])] = ([], 13) ∧ applyS a [(((a.length + 1 : Nat) : Int), [], [O])] = ([], 13) ∧ applyS a [((1 : Int), [], [O]), ((0 : Int), [], [O])] = ([], 1) ∧ applyS a [((0 : Int), [], [])] = ([], 1) ∧ applyS a [((k : Int), [], [O])] = (a.take k ++ O :: a.drop k, 0) := by
  have r1 : rightS [((k : Int), [O], [])] = true := by
    show (okOne ((k : Int), [O], ([] : List (List UInt8))) && decide ((0 : Int) ≤ (k : Int)) && true) = true
    rw [okOne_iff.2 ⟨by show (0 : Int) ≤ (k : Int); omega, by show (k : Int) ≤ 2147483647; omega, by simp⟩, decide_eq_true (by omega)]
    rfl
  have r2 : rightS [(((a.length + 1 : Nat) : Int), ([] : List (List UInt8)), [O])] = true := by
    show (okOne (((a.length + 1 : Nat) : Int), ([] : List (List UInt8)), [O]) && decide ((0 : Int) ≤ ((a.length + 1 : Nat) : Int)) && true) = true
    rw [okOne_iff.2 ⟨by show (0 : Int) ≤ ((a.length + 1 : Nat) : Int); omega, by show ((a.length + 1 : Nat) : Int) ≤ 2147483647; omega, by simp⟩, decide_eq_true (by omega)]
    rfl
  have r5 : rightS [((k : Int), ([] : List (List UInt8)), [O])] = true := by
    show (okOne ((k : Int), ([] : List (List UInt8)), [O]) && decide ((0 : Int) ≤ (k : Int)) && true) = true
    rw [okOne_iff.2 ⟨by show (0 : Int) ≤ (k : Int); omega, by show (k : Int) ≤ 2147483647; omega, by simp⟩, decide_eq_true (by omega)]
    rfl
  refine ⟨?_, ?_, ?_, ?_, ?_⟩
  · unfold applyS
    rw [r1]
    have hs : stands a ((k : Int), [O], []) = false := by
      unfold stands
      rw [Int.toNat_natCast]
      by_cases h : k < a.length
      · rw [decide_eq_false (p := (a.drop k).take [O].length = [O])]
        · simp
        · rw [List.drop_eq_getElem_cons h]
          intro e
          have e2 : a[k] :: [] = [O] := e
          exact hO _ (List.getElem?_eq_getElem h) (List.cons.inj e2).1
      · rw [decide_eq_false (p := k + [O].length ≤ a.length) (by simp; omega)]
        rfl
    rw [applyFrom, hs]
    rfl
  · unfold applyS
    rw [r2]
    have hs : stands a (((a.length + 1 : Nat) : Int), [], [O]) = false := by
      unfold stands
      rw [Int.toNat_natCast, decide_eq_false (p := a.length + 1 + ([] : List (List UInt8)).length ≤ a.length) (by simp)]
      rfl
    rw [applyFrom, hs]
    rfl
  · unfold applyS
    have : rightS [((1 : Int), ([] : List (List UInt8)), [O]), ((0 : Int), [], [O])] = false := rfl
    rw [this]
    rfl
  · rfl
  · unfold applyS
    rw [r5]
    have hs : stands a ((k : Int), [], [O]) = true := by
      unfold stands
      rw [Int.toNat_natCast, decide_eq_true (show k + ([] : List (List UInt8)).length ≤ a.length by simpa using hk)]
      rfl
    rw [applyFrom, hs, if_pos rfl, Int.toNat_natCast, applyFrom]
    simp

section
set_option maxRecDepth 100000
set_option maxHeartbeats 4000000
theorem walk_big (va : Value) (a : List (List UInt8)) (n : Int) (x : List UInt8) (w : World) (ha : FactStrs w va a) (hl : 50 < a.length ∨ 20 < x.length) :
    Calls Try.prog 5 #[va, .int .i64 n, strV x] w fun e w' => e = .returned (.bool true) ∧ Below w.heap.size w w' := by
  obtain ⟨s1, _, _⟩ := ha
  obtain ⟨a1, c1, rfl⟩ := s1.form
  rw [strCells_length]
  have hl' : (50 : Int) < (a.length : Int) ∨ (¬ (50 : Int) < (a.length : Int) ∧ (20 : Int) < (x.length : Int)) := by omega
  clear hl
  unfold strV
  rcases hl' with h1 | ⟨h1, h2⟩
  all_goals
    go_enter Try.func5, Try.ntmps5
    go_wp2_with fail
    refine (awake_any w).mono ?_
    rintro e w1 ⟨rfl, hb1⟩
    go_wp2
    go_ret
    exact ⟨rfl, hb1⟩

theorem walk_at (va : Value) (a : List (List UInt8)) (n : Int) (x : List UInt8) (w : World) (ha : FactStrs w va a) (hal : a.length ≤ 50) (hxl : x.length ≤ 20) (hbig : a.flatten.length + a.length ≤ 1048576) :
    Calls Try.prog 5 #[va, .int .i64 n, strV x] w fun e w' => e = .returned (.bool true) ∧ Below w.heap.size w w' := by
  obtain ⟨s1, _, hlines⟩ := ha
  obtain ⟨a1, c1, rfl⟩ := s1.form
  rw [strCells_length] at s1 ⊢
  obtain ⟨m1, hm1⟩ : ∃ m1, a.length + 1 = m1 := ⟨_, rfl⟩
  obtain ⟨k, hk, hkm⟩ := mod_nat n m1 (by omega) (by omega)
  have g1 : ¬ (50 : Int) < (a.length : Int) := by omega
  have g2 : ¬ (20 : Int) < (x.length : Int) := by omega
  have mw : IntKind.i64.wrap ((a.length : Int) + 1) = (m1 : Int) := (IntWalk.i64_in _ (by omega)).trans (by omega)
  have mu : IntKind.u64.wrap (m1 : Int) = (m1 : Int) := IntWalk.u64_in _ (by omega)
  have m0 : ((m1 : Int) == 0) = false := by simp; omega
  have m0' : ¬ (m1 : Int) = 0 := by omega
  have k0 : (0 : Int) ≤ (k : Int) := Int.natCast_nonneg _
  have ad1 := fun wx => (run_str_add (P := Try.prog) x [63] (by simp; omega) wx : (Op.stringOp .add ⟨x.toArray⟩ ⟨#[63]⟩).run Try.prog wx = .ok (.string ⟨(x ++ [63]).toArray⟩) wx)
  have HL := hid (show a.length ≤ 50 ∧ k ≤ a.length by omega)
  have HM := hid hm1
  unfold strV
  clear hm1
  by_cases hka : k < a.length
  · have hka' : (k : Int) < (a.length : Int) := by omega
    obtain ⟨b1, y, rfl, hcy, hy⟩ := s1.strAt' (i := k) hka
    have hyl := part_le (List.mem_of_getElem? hy)
    have ad2 := fun wx => (run_str_add (P := Try.prog) y [63] (by simp; omega) wx : (Op.stringOp .add ⟨y.toArray⟩ ⟨#[63]⟩).run Try.prog wx = .ok (.string ⟨(y ++ [63]).toArray⟩) wx)
    obtain ⟨O, hO⟩ : ∃ O, y ++ [63] = O := ⟨_, rfl⟩
    rw [hO] at ad2
    have HREF := hid (refuses (a := a) (k := k) (O := O) (by omega) hal (fun z hz => by
      rw [hy] at hz
      cases hz
      intro e
      have := congrArg List.length (hO.trans e.symm)
      simp at this))
    have hcy' : ∀ ob, (w.alloc ob).cell? (b1.add k) = some (.string ⟨y.toArray⟩) := fun ob => (World.cell?_alloc_some w _ ob (by rw [hcy]; rfl)).trans hcy
    have S1 := hid s1
    clear s1 hy hyl hlines hbig hal hxl hO
    obtain ⟨w1, hw1⟩ : ∃ w1, w.alloc (.cells #[.string ⟨O.toArray⟩] 9) = w1 := ⟨_, rfl⟩
    have hb1 : Below w.heap.size w w1 := by
      rw [← hw1]
      exact (Below.refl _ w).alloc (Nat.le_refl _) _
    have sO : Sl w1 (.slice (some ⟨w.heap.size, 0, none⟩) 1 1) (strCells [O]) := by
      rw [← hw1]
      exact litS [O] (heap_alloc_new w _)
    have s1 := Sl.old S1.out hb1
    have hz1 := hb1.size
    have TWO := hid (show hkFew [((1 : Int), ([] : List (List UInt8)), [O]), ((0 : Int), [], [O])] from fun q hq => by
      simp at hq
      rcases hq with rfl | rfl <;> simp)
    rw [HM.out] at HREF
    clear S1
    go_enter Try.func5, Try.ntmps5
    go_wp2_with fail
    obtain ⟨N, hN⟩ : ∃ N, w.heap.size = N := ⟨_, rfl⟩
    have hbN : w.heap.size = N := hN
    rw [hN] at sO ⊢
    clear hw1
    have hD := DApply_any _ _ a [((k : Int), [O], [])] (w1.alloc (.cells #[.int .i64 (k : Int), .slice (some ⟨N, 0, none⟩) 1 1, .slice none 0 0] 36)) (s1.alloc _) (litH (heap_alloc_new w1 _) (sO.alloc _) (Sl.nil _)) (one_few (by simp) (by simp)) (by simp) (by have := HL.out.1; omega)
    rw [HREF.out.1] at hD
    refine hD.mono ?_
    rintro e x2 ⟨ve, rfl, se, hb2⟩
    have hb2 : Below w1.heap.size w1 x2 := ((Below.refl _ w1).alloc (Nat.le_refl _) _).trans (hb2.mono (by simp))
    clear hD
    have s1 := Sl.old s1 hb2
    have sO := Sl.old sO hb2
    obtain ⟨oe, ce, hf⟩ := se.form
    subst hf
    clear se
    have hb2 := below_step hb1 hb2 hz1
    have hz2 := hb2.size
    clear hb1 hz1
    go_wp2_with fail
    have hD := DApply_any _ _ a [((m1 : Int), [], [O])] (x2.alloc (.cells #[.int .i64 (m1 : Int), .slice none 0 0, .slice (some ⟨N, 0, none⟩) 1 1] 36)) (s1.alloc _) (litH (heap_alloc_new x2 _) (Sl.nil _) (sO.alloc _)) (one_few (by simp) (by simp)) (by simp) (by have := HL.out.1; omega)
    rw [HREF.out.2.1] at hD
    refine hD.mono ?_
    rintro e x3 ⟨vf, rfl, sf, hb3⟩
    have hb3 : Below x2.heap.size x2 x3 := ((Below.refl _ x2).alloc (Nat.le_refl _) _).trans (hb3.mono (by simp))
    clear hD
    have s1 := Sl.old s1 hb3
    have sO := Sl.old sO hb3
    obtain ⟨of, cf, hf⟩ := sf.form
    subst hf
    clear sf
    have hb3 := below_step hb2 hb3 hz2
    have hz3 := hb3.size
    clear hb2 hz2
    go_wp2_with fail
    have hD := DApply_any _ _ a [((1 : Int), [], [O]), ((0 : Int), [], [O])] (x3.alloc (.cells #[.int .i64 1, .slice none 0 0, .slice (some ⟨N, 0, none⟩) 1 1, .int .i64 0, .slice none 0 0, .slice (some ⟨N, 0, none⟩) 1 1] 36)) (s1.alloc _) (litH2 (heap_alloc_new x3 _) (Sl.nil _) (sO.alloc _) (Sl.nil _) (sO.alloc _)) TWO.out (by simp) (by have := HL.out.1; omega)
    rw [HREF.out.2.2.1] at hD
    refine hD.mono ?_
    rintro e x4 ⟨vg, rfl, sg, hb4⟩
    have hb4 : Below x3.heap.size x3 x4 := ((Below.refl _ x3).alloc (Nat.le_refl _) _).trans (hb4.mono (by simp))
    clear hD
    have s1 := Sl.old s1 hb4
    have sO := Sl.old sO hb4
    obtain ⟨og, cg, hf⟩ := sg.form
    subst hf
    clear sg
    have hb4 := below_step hb3 hb4 hz3
    have hz4 := hb4.size
    clear hb3 hz3
    go_wp2_with fail
    have hD := DApply_any _ _ a [((0 : Int), [], [])] (x4.alloc (.cells #[.int .i64 0, .slice none 0 0, .slice none 0 0] 36)) (s1.alloc _) (litH (heap_alloc_new x4 _) (Sl.nil _) (Sl.nil _)) (one_few (by simp) (by simp)) (by simp) (by have := HL.out.1; omega)
    rw [HREF.out.2.2.2.1] at hD
    refine hD.mono ?_
    rintro e x5 ⟨vh, rfl, sh, hb5⟩
    have hb5 : Below x4.heap.size x4 x5 := ((Below.refl _ x4).alloc (Nat.le_refl _) _).trans (hb5.mono (by simp))
    clear hD
    have s1 := Sl.old s1 hb5
    have sO := Sl.old sO hb5
    obtain ⟨oh, ch, hf⟩ := sh.form
    subst hf
    clear sh
    have hb5 := below_step hb4 hb5 hz4
    have hz5 := hb5.size
    clear hb4 hz4
    go_wp2_with fail
    have hD := DApply_any _ _ a [((k : Int), [], [O])] (x5.alloc (.cells #[.int .i64 (k : Int), .slice none 0 0, .slice (some ⟨N, 0, none⟩) 1 1] 36)) (s1.alloc _) (litH (heap_alloc_new x5 _) (Sl.nil _) (sO.alloc _)) (one_few (by simp) (by simp)) (by simp) (by have := HL.out.1; omega)
    rw [HREF.out.2.2.2.2] at hD
    refine hD.mono ?_
    rintro e x6 ⟨vy, rfl, sy, hb6⟩
    have hb6 : Below x5.heap.size x5 x6 := ((Below.refl _ x5).alloc (Nat.le_refl _) _).trans (hb6.mono (by simp))
    clear hD
    have s1 := Sl.old s1 hb6
    have sO := Sl.old sO hb6
    obtain ⟨oy, cy, hf⟩ := sy.form
    subst hf
    have hb6 := below_step hb5 hb6 hz5
    have hz6 := hb6.size
    clear hb5 hz5
    have hyl : (strCells (a.take k ++ O :: a.drop k)).length = m1 := by rw [strCells_length, List.length_append, List.length_take, List.length_cons, List.length_drop]; have h1 := HL.out.2; have h2 := HM.out; omega
    rw [hyl] at sy ⊢
    obtain ⟨yb, yO, rfl, hcy, hyk⟩ := sy.strAt' (i := k) (by have h1 := HL.out.2; rw [List.length_append, List.length_take, List.length_cons]; omega)
    obtain rfl : O = yO := by
      have h1 := HL.out.2
      rw [List.getElem?_append_right (by rw [List.length_take]; omega), List.length_take, Nat.min_eq_left h1, Nat.sub_self] at hyk
      simpa using hyk
    obtain ⟨ob, oO, eo, hco, hok⟩ := sO.strAt' (i := 0) (by simp)
    obtain rfl : ob = ⟨N, 0, none⟩ := by simpa using eo.symm
    obtain rfl : O = oO := by simpa using hok
    have hk1 : (k : Int) < (m1 : Int) := by have h1 := HL.out.2; have h2 := HM.out; omega
    have hOO : (O == O) = true := by simp
    have hmm : ((m1 : Int) == (m1 : Int)) = true := by simp
    have c1 : x6.drew.cell? (yb.add k) = some (.string ⟨O.toArray⟩) := hcy
    have c2 : x6.drew.cell? ⟨N, 0, none⟩ = some (.string ⟨O.toArray⟩) := hco
    have hbd : Below w.heap.size w x6.drew := hb6.trans ⟨rfl, rfl, rfl, Nat.le_refl _, fun _ _ => rfl⟩
    clear s1 sO sy hyl hyk hok hcy hco eo HREF
    go_wp2_with fail
    go_region_held3 (fun wy => wy.cell? (yb.add k) = some (.string ⟨O.toArray⟩) ∧ wy.cell? ⟨N, 0, none⟩ = some (.string ⟨O.toArray⟩)) (first | exact ⟨c1, c2⟩ | simp [*]) ((go_at_call 9; refine (awake_any _).mono ?_; rintro e wz ⟨rfl, hbz⟩; have hbf := below_step hbd hbz hbd.size; have c1 : wz.cell? (yb.add k) = some (.string ⟨O.toArray⟩) := (World.cell?_of_block (hbz.block _ (World.block_lt_of_cell? _ _ c1))).trans c1; have c2 : wz.cell? ⟨N, 0, none⟩ = some (.string ⟨O.toArray⟩) := (World.cell?_of_block (hbz.block _ (World.block_lt_of_cell? _ _ c2))).trans c2; clear hbz))
    go_wp2
    go_ret
    exact ⟨rfl, hbf⟩
  · have hka' : ¬ (k : Int) < (a.length : Int) := by omega
    obtain ⟨O, hO⟩ : ∃ O, x ++ [63] = O := ⟨_, rfl⟩
    rw [hO] at ad1
    have HREF := hid (refuses (a := a) (k := k) (O := O) HL.out.2 hal (fun z hz => by
      rw [List.getElem?_eq_none (by omega)] at hz
      cases hz))
    have S1 := hid s1
    clear s1 hlines hbig hal hxl hO
    obtain ⟨w1, hw1⟩ : ∃ w1, w.alloc (.cells #[.string ⟨O.toArray⟩] 9) = w1 := ⟨_, rfl⟩
    have hb1 : Below w.heap.size w w1 := by
      rw [← hw1]
      exact (Below.refl _ w).alloc (Nat.le_refl _) _
    have sO : Sl w1 (.slice (some ⟨w.heap.size, 0, none⟩) 1 1) (strCells [O]) := by
      rw [← hw1]
      exact litS [O] (heap_alloc_new w _)
    have s1 := Sl.old S1.out hb1
    have hz1 := hb1.size
    have TWO := hid (show hkFew [((1 : Int), ([] : List (List UInt8)), [O]), ((0 : Int), [], [O])] from fun q hq => by
      simp at hq
      rcases hq with rfl | rfl <;> simp)
    rw [HM.out] at HREF
    clear S1
    go_enter Try.func5, Try.ntmps5
    go_wp2_with fail
    obtain ⟨N, hN⟩ : ∃ N, w.heap.size = N := ⟨_, rfl⟩
    have hbN : w.heap.size = N := hN
    rw [hN] at sO ⊢
    clear hw1
    have hD := DApply_any _ _ a [((k : Int), [O], [])] (w1.alloc (.cells #[.int .i64 (k : Int), .slice (some ⟨N, 0, none⟩) 1 1, .slice none 0 0] 36)) (s1.alloc _) (litH (heap_alloc_new w1 _) (sO.alloc _) (Sl.nil _)) (one_few (by simp) (by simp)) (by simp) (by have := HL.out.1; omega)
    rw [HREF.out.1] at hD
    refine hD.mono ?_
    rintro e x2 ⟨ve, rfl, se, hb2⟩
    have hb2 : Below w1.heap.size w1 x2 := ((Below.refl _ w1).alloc (Nat.le_refl _) _).trans (hb2.mono (by simp))
    clear hD
    have s1 := Sl.old s1 hb2
    have sO := Sl.old sO hb2
    obtain ⟨oe, ce, hf⟩ := se.form
    subst hf
    clear se
    have hb2 := below_step hb1 hb2 hz1
    have hz2 := hb2.size
    clear hb1 hz1
    go_wp2_with fail
    have hD := DApply_any _ _ a [((m1 : Int), [], [O])] (x2.alloc (.cells #[.int .i64 (m1 : Int), .slice none 0 0, .slice (some ⟨N, 0, none⟩) 1 1] 36)) (s1.alloc _) (litH (heap_alloc_new x2 _) (Sl.nil _) (sO.alloc _)) (one_few (by simp) (by simp)) (by simp) (by have := HL.out.1; omega)
    rw [HREF.out.2.1] at hD
    refine hD.mono ?_
    rintro e x3 ⟨vf, rfl, sf, hb3⟩
    have hb3 : Below x2.heap.size x2 x3 := ((Below.refl _ x2).alloc (Nat.le_refl _) _).trans (hb3.mono (by simp))
    clear hD
    have s1 := Sl.old s1 hb3
    have sO := Sl.old sO hb3
    obtain ⟨of, cf, hf⟩ := sf.form
    subst hf
    clear sf
    have hb3 := below_step hb2 hb3 hz2
    have hz3 := hb3.size
    clear hb2 hz2
    go_wp2_with fail
    have hD := DApply_any _ _ a [((1 : Int), [], [O]), ((0 : Int), [], [O])] (x3.alloc (.cells #[.int .i64 1, .slice none 0 0, .slice (some ⟨N, 0, none⟩) 1 1, .int .i64 0, .slice none 0 0, .slice (some ⟨N, 0, none⟩) 1 1] 36)) (s1.alloc _) (litH2 (heap_alloc_new x3 _) (Sl.nil _) (sO.alloc _) (Sl.nil _) (sO.alloc _)) TWO.out (by simp) (by have := HL.out.1; omega)
    rw [HREF.out.2.2.1] at hD
    refine hD.mono ?_
    rintro e x4 ⟨vg, rfl, sg, hb4⟩
    have hb4 : Below x3.heap.size x3 x4 := ((Below.refl _ x3).alloc (Nat.le_refl _) _).trans (hb4.mono (by simp))
    clear hD
    have s1 := Sl.old s1 hb4
    have sO := Sl.old sO hb4
    obtain ⟨og, cg, hf⟩ := sg.form
    subst hf
    clear sg
    have hb4 := below_step hb3 hb4 hz3
    have hz4 := hb4.size
    clear hb3 hz3
    go_wp2_with fail
    have hD := DApply_any _ _ a [((0 : Int), [], [])] (x4.alloc (.cells #[.int .i64 0, .slice none 0 0, .slice none 0 0] 36)) (s1.alloc _) (litH (heap_alloc_new x4 _) (Sl.nil _) (Sl.nil _)) (one_few (by simp) (by simp)) (by simp) (by have := HL.out.1; omega)
    rw [HREF.out.2.2.2.1] at hD
    refine hD.mono ?_
    rintro e x5 ⟨vh, rfl, sh, hb5⟩
    have hb5 : Below x4.heap.size x4 x5 := ((Below.refl _ x4).alloc (Nat.le_refl _) _).trans (hb5.mono (by simp))
    clear hD
    have s1 := Sl.old s1 hb5
    have sO := Sl.old sO hb5
    obtain ⟨oh, ch, hf⟩ := sh.form
    subst hf
    clear sh
    have hb5 := below_step hb4 hb5 hz4
    have hz5 := hb5.size
    clear hb4 hz4
    go_wp2_with fail
    have hD := DApply_any _ _ a [((k : Int), [], [O])] (x5.alloc (.cells #[.int .i64 (k : Int), .slice none 0 0, .slice (some ⟨N, 0, none⟩) 1 1] 36)) (s1.alloc _) (litH (heap_alloc_new x5 _) (Sl.nil _) (sO.alloc _)) (one_few (by simp) (by simp)) (by simp) (by have := HL.out.1; omega)
    rw [HREF.out.2.2.2.2] at hD
    refine hD.mono ?_
    rintro e x6 ⟨vy, rfl, sy, hb6⟩
    have hb6 : Below x5.heap.size x5 x6 := ((Below.refl _ x5).alloc (Nat.le_refl _) _).trans (hb6.mono (by simp))
    clear hD
    have s1 := Sl.old s1 hb6
    have sO := Sl.old sO hb6
    obtain ⟨oy, cy, hf⟩ := sy.form
    subst hf
    have hb6 := below_step hb5 hb6 hz5
    have hz6 := hb6.size
    clear hb5 hz5
    have hyl : (strCells (a.take k ++ O :: a.drop k)).length = m1 := by rw [strCells_length, List.length_append, List.length_take, List.length_cons, List.length_drop]; have h1 := HL.out.2; have h2 := HM.out; omega
    rw [hyl] at sy ⊢
    obtain ⟨yb, yO, rfl, hcy, hyk⟩ := sy.strAt' (i := k) (by have h1 := HL.out.2; rw [List.length_append, List.length_take, List.length_cons]; omega)
    obtain rfl : O = yO := by
      have h1 := HL.out.2
      rw [List.getElem?_append_right (by rw [List.length_take]; omega), List.length_take, Nat.min_eq_left h1, Nat.sub_self] at hyk
      simpa using hyk
    obtain ⟨ob, oO, eo, hco, hok⟩ := sO.strAt' (i := 0) (by simp)
    obtain rfl : ob = ⟨N, 0, none⟩ := by simpa using eo.symm
    obtain rfl : O = oO := by simpa using hok
    have hk1 : (k : Int) < (m1 : Int) := by have h1 := HL.out.2; have h2 := HM.out; omega
    have hOO : (O == O) = true := by simp
    have hmm : ((m1 : Int) == (m1 : Int)) = true := by simp
    have c1 : x6.drew.cell? (yb.add k) = some (.string ⟨O.toArray⟩) := hcy
    have c2 : x6.drew.cell? ⟨N, 0, none⟩ = some (.string ⟨O.toArray⟩) := hco
    have hbd : Below w.heap.size w x6.drew := hb6.trans ⟨rfl, rfl, rfl, Nat.le_refl _, fun _ _ => rfl⟩
    clear s1 sO sy hyl hyk hok hcy hco eo HREF
    go_wp2_with fail
    go_region_held3 (fun wy => wy.cell? (yb.add k) = some (.string ⟨O.toArray⟩) ∧ wy.cell? ⟨N, 0, none⟩ = some (.string ⟨O.toArray⟩)) (first | exact ⟨c1, c2⟩ | simp [*]) ((go_at_call 9; refine (awake_any _).mono ?_; rintro e wz ⟨rfl, hbz⟩; have hbf := below_step hbd hbz hbd.size; have c1 : wz.cell? (yb.add k) = some (.string ⟨O.toArray⟩) := (World.cell?_of_block (hbz.block _ (World.block_lt_of_cell? _ _ c1))).trans c1; have c2 : wz.cell? ⟨N, 0, none⟩ = some (.string ⟨O.toArray⟩) := (World.cell?_of_block (hbz.block _ (World.block_lt_of_cell? _ _ c2))).trans c2; clear hbz))
    go_wp2
    go_ret
    exact ⟨rfl, hbf⟩

theorem walk (va : Value) (a : List (List UInt8)) (n : Int) (x : List UInt8) (w : World) (ha : FactStrs w va a) (_hn : (Lit.int IntKind.i64 n).wf = true) (_hx : x.length ≤ maxLen) (hbig : a.flatten.length + a.length ≤ 1048576) (_hbx : x.length ≤ 1048576) :
    Calls Try.prog 5 #[va, .int .i64 n, strV x] w fun e w' => e = .returned (.bool true) ∧ Below w.heap.size w w' := by
  by_cases h : 50 < a.length ∨ 20 < x.length
  · exact walk_big va a n x w ha h
  · exact walk_at va a n x w ha (by omega) (by omega) hbig
end

theorem own : ownKnob Try.prog.godebug = none := by kernel_rfl
theorem laidOut : laidOutB Try.prog = true := by kernel_rfl

theorem contract (H : Type) (enc : TypeId × Value → H) (W : World) (base : Nat) (args : Array Value) (ds gs : List (DataW H)) (before : List MemPlace)
    (hval : ∀ (j : Nat) t v, Try.f5.params[j]? = some t → args[j]? = some v → Value.okWide Try.prog W .any base t v)
    (hW : DataW.Whole enc Try.prog Try.f5.params.toList Rows.hunkMatchSpec.vars false W args.toList ds gs before) (hk : Rows.uptoSmall H (ds ++ gs) = true) :
    Calls Try.prog 5 args W fun e W' => ∃ v, e = .returned v ∧ Rows.hunkMatchSpec.post enc Try.prog Try.f5 false true false false W args v W' := by
  have hW' := hW
  obtain ⟨p, q, hA0, hV, rfl, hfz, hnd⟩ := hW
  have hA : DataW.TrodAll enc Try.prog W 0 (fun _ => true) true Try.f5.params.toList args.toList ds p := hA0
  rw [Try.params5] at hA hval
  obtain ⟨v0, vs0, d0, ds0, p0, q0, hargs, rfl, rfl, h0, r0⟩ := trodAll_cons hA
  obtain ⟨v1, vs1, d1, ds1, p1, q1, rfl, rfl, rfl, h1, r1⟩ := trodAll_cons r0
  obtain ⟨v2, vs2, d2, ds2, p2, q2, rfl, rfl, rfl, h2, r2⟩ := trodAll_cons r1
  obtain ⟨rfl, rfl, rfl⟩ := trodAll_nil r2
  obtain rfl : args = #[v0, v1, v2] := by cases args; simp_all
  obtain ⟨rfl, rfl⟩ := trodVars_none hV
  have k0 := h0
  have lt0 : ∀ x ∈ p0, x.block < W.heap.size := by obtain ⟨m, hm⟩ := k0; exact DataW.trod_lt m _ _ _ hm
  obtain ⟨x0, l0, c0, rfl⟩ := okWide_slice Try.underlying23 (hval 0 23 v0 rfl rfl)
  obtain ⟨a0, w0, e0⟩ : ∃ a, FactStrs W (.slice x0 l0 c0) a ∧ ((d0 = .nil ∧ a = []) ∨ ∃ rest, d0 = .slice (dataStrs a) rest) := by
    obtain ⟨fuel, hf⟩ := h0
    obtain ⟨v', a, hcs, hs, hx⟩ := open_strL Try.underlying23 Try.underlying9 (by kernel_rfl) hf
    obtain rfl : v' = .slice x0 l0 c0 := by simpa [Value.cells] using hcs.symm
    exact ⟨a, hs, hx⟩
  have b0 := bulk_list hk (List.mem_append_left _ (by simp)) e0
  have k1 := h1
  have lt1 : ∀ x ∈ p1, x.block < W.heap.size := by obtain ⟨m, hm⟩ := k1; exact DataW.trod_lt m _ _ _ hm
  obtain ⟨a1, rfl, _, _, w1⟩ := open_int Try.underlying3 (hval 1 3 v1 rfl rfl) h1
  have k2 := h2
  have lt2 : ∀ x ∈ p2, x.block < W.heap.size := by obtain ⟨m, hm⟩ := k2; exact DataW.trod_lt m _ _ _ hm
  obtain ⟨a2, rfl, rfl, _, w2⟩ := open_str Try.underlying9 (hval 2 9 v2 rfl rfl) h2
  have b2 := bulk_text hk (List.mem_append_left _ (by simp) : DataW.lit (.string a2) ∈ _)
  clear hA0
  refine (walk (.slice x0 l0 c0) a0 a1 a2 W w0 w1 w2 b0 b2).mono fun e W' ⟨he, bel⟩ => ?_
  subst he
  exact ⟨_, rfl, _, _, _, [], _, [], hW', trodAll_mk1 (shut_bool Try.underlying4 _), (trodAll_cons_mk (Below.trod laidOut (by kernel_rfl) (of_decide_eq_true (by kernel_rfl)) k0 bel lt0) (trodAll_cons_mk (Below.trod laidOut (by kernel_rfl) (of_decide_eq_true (by kernel_rfl)) k1 bel lt1) (trodAll_cons_mk (Below.trod laidOut (by kernel_rfl) (of_decide_eq_true (by kernel_rfl)) k2 bel lt2) trodAll_mk0))), rfl, bel.frame _, fun h => by cases h⟩

set_option maxRecDepth 100000 in
theorem lifted (os : Os) (started : os.Started) (H : Type) (enc : TypeId × Value → H) (F : Stop.Interp) :
    ReturnsInHanded {} Try.checked os 5 .any ((Rows.OpenSpec.upto Rows.hunkMatchSpec).pre6 enc Try.prog Try.f5 Rows.hunkMatchUptoRow.domain false) (((Rows.OpenSpec.upto Rows.hunkMatchSpec).at F).post enc Try.prog Try.f5 false true false false) := by
  refine returnsInHanded_of_cond (C := Try.checked) (s := Rows.OpenSpec.upto Rows.hunkMatchSpec) (k := Rows.uptoSmall) rfl own started (by kernel_rfl) Try.func5
    (OpenSpec.witness (enc := enc) (C := Try.checked) (s := Rows.OpenSpec.upto Rows.hunkMatchSpec) (k := Rows.uptoSmall) rfl false ⟨#[], #[.slice none 0 0, .int .i64 0, .string ByteArray.empty], []⟩ 8 (by kernel_rfl) (by kernel_rfl) (by kernel_rfl)
      (x := ([.nil, .lit (.int .i64 0), .lit (.string [])], [], [])) (by kernel_rfl) rfl (by kernel_rfl)) ?_
  intro W base args ds gs before hval hW _ hk _
  exact contract H enc W base args ds gs before hval hW hk

theorem over : Rows.hunkMatchUptoRow.holds Try.pinned (Rows.OpenSpec.upto Rows.hunkMatchSpec) :=
  OpenClaim.holds_of_cond 5 Try.f5 rfl rfl rfl rfl rfl rfl rfl ⟨rfl, rfl, rfl, rfl, rfl⟩ rfl rfl rfl rfl rfl (by kernel_rfl) Try.func5 (by kernel_rfl)
    (of_decide_eq_true (by kernel_rfl)) (by unfold Func.isWrapper; first | (rw [if_pos (by decide +kernel)]; kernel_rfl) | (rw [if_neg (by decide +kernel)]; exact ⟨rfl, rfl⟩))
    (fun os started H enc _ F => lifted os started H enc F)

/-- The statement. -/
theorem proved : Rows.HunkMatchUptoSaid :=
  over
#print axioms proved
end Go.Proofs.Ytbcmecclaofmgaa.hunkMatch
