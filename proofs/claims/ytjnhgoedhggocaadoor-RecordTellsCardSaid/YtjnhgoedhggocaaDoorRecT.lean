/-
  RecordTells: for all bytes the sum, the frame, and the records that they begin with are what the document says; what is handed in stays. Condition: the table of package digest holds what its initialiser lays (the card ties it to the program's text).
-/
import Derived.Test.YtjnhgoedhggocaaDoorRecAw
import Derived.Test.YtjnhgoedhggocaaDoorRefS
import Derived.Test.YtjnhgoedhggocaaDoorHSame
import Derived.Test.YtjnhgoedhggocaaDoorHelp
import Derived.Test.YtjnhgoedhggocaaDoorTab
namespace Go.Proofs.YtjnhgoedhggocaaDoor.recordTells
open Go.ChangeShapes Go.WideShapes Go.ChangeAt Go.RowKit

section
set_option maxRecDepth 100000
set_option maxHeartbeats 2000000
theorem walk_big (v0 : Value) (b : List UInt8) (v1 : Value) (x : List UInt8) (w : World) (h0 : FactBytes w v0 b) (h1 : FactBytes w v1 x) (ht : Tab w) (h : 1000 < b.length ∨ 2000 < x.length) :
    Calls Tryd.prog 3 #[v0, v1] w fun e w' => e = .returned (.bool true) ∧ Below w.heap.size w w' := by
  obtain ⟨s0, l0⟩ := h0
  obtain ⟨s1, l1⟩ := h1
  obtain ⟨a0, c0, rfl⟩ := s0.form
  obtain ⟨a1, c1, rfl⟩ := s1.form
  rw [Lib.byteCells_length] at s0 s1 ⊢
  rw [Lib.byteCells_length]
  unfold maxLen at l0 l1
  by_cases hb : 1000 < b.length
  · have hb' : (1000 : Int) < (b.length : Int) := by omega
    clear h hb
    go_enter Tryd.func3, Tryd.ntmps3
    go_wp2_with fail
    refine (awake_any w ht).mono ?_
    rintro e w1 ⟨rfl, hb1⟩
    go_wp2
    go_ret
    exact ⟨rfl, hb1⟩
  · have hb' : ¬ (1000 : Int) < (b.length : Int) := by omega
    have hx' : (2000 : Int) < (x.length : Int) := by omega
    clear h hb
    go_enter Tryd.func3, Tryd.ntmps3
    go_wp2_with fail
    refine (awake_any w ht).mono ?_
    rintro e w1 ⟨rfl, hb1⟩
    go_wp2
    go_ret
    exact ⟨rfl, hb1⟩

theorem walk_at (v0 : Value) (b : List UInt8) (v1 : Value) (x : List UInt8) (w : World) (s0 : Sl w v0 (Lib.byteCells b)) (s1 : Sl w v1 (Lib.byteCells x)) (ht : Tab w) (hb : b.length ≤ 1000) (hx : x.length ≤ 2000) :
    Calls Tryd.prog 3 #[v0, v1] w fun e w' => e = .returned (.bool true) ∧ Below w.heap.size w w' := by
  obtain ⟨a0, c0, rfl⟩ := s0.form
  obtain ⟨a1, c1, rfl⟩ := s1.form
  rw [Lib.byteCells_length] at s0 s1 ⊢
  rw [Lib.byteCells_length]
  have hb' : ¬ (1000 : Int) < (b.length : Int) := by omega
  have hx' : ¬ (2000 : Int) < (x.length : Int) := by omega
  go_enter Tryd.func3, Tryd.ntmps3
  go_wp2_with fail
  refine (Own_any _ x 71 w s1 (by omega)).mono ?_
  rintro e w1 ⟨rfl, own1, hb1⟩
  go_wp2_with fail
  refine (PScan_any _ x (by omega) w1 own1.sl (ht.old hb1 ht.pos)).mono ?_
  rintro e w2 ⟨l, rfl, hl, hb2⟩
  have hz1 := hb1.size
  have hbw2 := below_step hb1 hb2 hz1
  have hz2 := hb2.size
  have own2 := own1.old hb2
  go_wp2_with fail
  refine (RScan_any _ x (by omega) w2 (Sl.old s1 hbw2)).mono ?_
  rintro e w3 ⟨m, rfl, hm, hb3⟩
  have hbw3 := below_step hbw2 hb3 (by omega)
  have hz3 := hb3.size
  have hl3 := hl.old hb3
  have own3 := own2.old hb3
  have hcnt := scanOf_count x
  obtain ⟨SC, hSC⟩ : ∃ SC, scanOf x = SC := ⟨_, rfl⟩
  rw [hSC] at hl3 hm hcnt ⊢
  have hcnt' : SC.1.length ≤ maxLen := by unfold maxLen; omega
  have hee : (SC.1 == SC.1) = true := by simp
  clear hl own1 own2 hSC hcnt
  go_wp2_with fail
  refine (awake_any w3 (ht.old hbw3 ht.pos)).mono ?_
  rintro e w4 ⟨rfl, hb4⟩
  have hbw4 := below_step hbw3 hb4 (by omega)
  have hz4 := hb4.size
  have hl4 := hl3.old hb4
  have hm4 := hm.old hb4
  have own4 := own3.old hb4
  clear hl3 hm own3
  go_wp2_with fail
  refine (PSum32_any _ b (by omega) w4 (Sl.old s0 hbw4) (ht.old hbw4 ht.pos)).mono ?_
  rintro e w5 ⟨rfl, hb5⟩
  have hbw5 := below_step hbw4 hb5 (by omega)
  have hz5 := hb5.size
  go_wp2_with fail
  refine (RSum32_any _ b (by omega) w5 (Sl.old s0 hbw5)).mono ?_
  rintro e w6 ⟨rfl, hb6⟩
  have hbw6 := below_step hbw5 hb6 (by omega)
  have hz6 := hb6.size
  go_wp2_with fail
  refine (PFrame_any _ b (by omega) w6 (Sl.old s0 hbw6) (ht.old hbw6 ht.pos)).mono ?_
  rintro e w7 ⟨f1, rfl, hf1, hb7⟩
  have hbw7 := below_step hbw6 hb7 (by omega)
  have hz7 := hb7.size
  go_wp2_with fail
  refine (RFrame_any _ b (by omega) w7 (Sl.old s0 hbw7)).mono ?_
  rintro e w8 ⟨f2, rfl, hf2, _, hb8⟩
  have hbw8 := below_step hbw7 hb8 (by omega)
  have hz8 := hb8.size
  have hf1' := Sl.old (Sl.ofOwns hf1) hb8
  go_wp2_with fail
  refine (HBytes_any _ _ _ _ _ hf1' hf2).mono ?_
  rw [show (frameOf b == frameOf b) = true by simp]
  rintro e w9 ⟨rfl, rfl⟩
  have hl8 := (((hl4.old hb5).old hb6).old hb7).old hb8
  have hm8 := (((hm4.old hb5).old hb6).old hb7).old hb8
  have own8 := (((own4.old hb5).old hb6).old hb7).old hb8
  clear hl4 hm4 own4 hf1 hf1' hf2
  go_wp2_with fail
  refine (HSame_any _ _ _ _ _ hl8.slB hm8.slB hcnt').mono ?_
  rw [hee]
  rintro e w10 ⟨rfl, q, rfl⟩
  clear hl8 hm8
  have hd : Below w8.heap.size w8 (w8.drewN q) := ⟨rfl, rfl, rfl, Nat.le_refl _, fun _ _ => rfl⟩
  have own10 := own8.old hd
  have hbw10 := below_step hbw8 hd hbw8.size
  clear own8
  go_wp2_with fail
  refine (Kept_any w.heap.size _ x 71 _ own10 (Sl.old s1 hbw10) (by omega)).mono ?_
  rintro e w11 ⟨rfl, q2, rfl⟩
  have hd2 : Below w8.heap.size w8 (w8.drewN (q + q2)) := ⟨rfl, rfl, rfl, Nat.le_refl _, fun _ _ => rfl⟩
  have hbw11 := below_step hbw8 hd2 hbw8.size
  go_wp2
  go_ret
  exact ⟨rfl, hbw11⟩
end

theorem walk (v0 : Value) (b : List UInt8) (v1 : Value) (x : List UInt8) (w : World) (h0 : FactBytes w v0 b) (h1 : FactBytes w v1 x) (ht : Tab w) :
    Calls Tryd.prog 3 #[v0, v1] w fun e w' => e = .returned (.bool true) ∧ Below w.heap.size w w' := by
  by_cases h : b.length ≤ 1000 ∧ x.length ≤ 2000
  · exact walk_at v0 b v1 x w h0.1 h1.1 ht h.1 h.2
  · exact walk_big v0 b v1 x w h0 h1 ht (by omega)

theorem own : ownKnob Tryd.prog.godebug = none := by kernel_rfl
theorem laidOut : laidOutB Tryd.prog = true := by kernel_rfl
theorem laid_met (os : Os) : laidMet Tryd.prog Rows.recordTellsRow.laid ((laidWorld os).forCall (fun _ _ => 0) ⟨#[], #[.slice none 0 0, .slice none 0 0], []⟩).memory :=
  laidMet_of_run' 8 (by kernel_rfl) (by kernel_rfl)
theorem reads (os : Os) {H : Type} (enc : TypeId × Value → H) : ∃ places, DataW.whole enc Tryd.prog ((laidWorld os).forCall (fun _ _ => 0) ⟨#[], #[.slice none 0 0, .slice none 0 0], []⟩).memory Tryd.f3.params.toList Rows.recordTellsSpec.vars false (#[.slice none 0 0, .slice none 0 0] : Array Value).toList 8 = some ([.nil, .nil], [], places) :=
  ⟨[], by kernel_rfl⟩

theorem contract (H : Type) (enc : TypeId × Value → H) (W : World) (base : Nat) (args : Array Value) (ds gs : List (DataW H)) (before : List MemPlace)
    (hval : ∀ (j : Nat) t v, Tryd.f3.params[j]? = some t → args[j]? = some v → Value.okWide Tryd.prog W .any base t v)
    (hW : DataW.Whole enc Tryd.prog Tryd.f3.params.toList Rows.recordTellsSpec.vars false W args.toList ds gs before) (hL : laidMetH Tryd.prog Rows.recordTellsRow.laid W) :
    Calls Tryd.prog 3 args W fun e W' => ∃ v, e = .returned v ∧ Rows.recordTellsSpec.post enc Tryd.prog Tryd.f3 false true false false W args v W' := by
  have hW' := hW
  obtain ⟨p, q, hA0, hV, rfl, hfz, hnd⟩ := hW
  have hA : DataW.TrodAll enc Tryd.prog W 0 (fun _ => true) true Tryd.f3.params.toList args.toList ds p := hA0
  rw [Tryd.params3] at hA hval
  obtain ⟨v0, vs0, d0, ds0, p0, q0, hargs, rfl, rfl, h0, r0⟩ := trodAll_cons hA
  obtain ⟨v1, vs1, d1, ds1, p1, q1, rfl, rfl, rfl, h1, r1⟩ := trodAll_cons r0
  obtain ⟨rfl, rfl, rfl⟩ := trodAll_nil r1
  obtain rfl : args = #[v0, v1] := by cases args; simp_all
  obtain ⟨rfl, rfl⟩ := trodVars_none hV
  have k0 := h0
  have lt0 : ∀ x ∈ p0, x.block < W.heap.size := by obtain ⟨m, hm⟩ := k0; exact DataW.trod_lt m _ _ _ hm
  obtain ⟨x0, l0, c0, rfl⟩ := okWide_slice Tryd.underlying22 (hval 0 22 v0 rfl rfl)
  obtain ⟨a0, w0⟩ : ∃ a, FactBytes W (.slice x0 l0 c0) a := by
    obtain ⟨fuel, hf⟩ := h0
    obtain ⟨v', a, hcs, hs⟩ := open_bytes Tryd.underlying22 Tryd.underlying5 (by kernel_rfl) hf
    obtain rfl : v' = .slice x0 l0 c0 := by simpa [Value.cells] using hcs.symm
    exact ⟨a, hs⟩
  have k1 := h1
  have lt1 : ∀ x ∈ p1, x.block < W.heap.size := by obtain ⟨m, hm⟩ := k1; exact DataW.trod_lt m _ _ _ hm
  obtain ⟨x1, l1, c1, rfl⟩ := okWide_slice Tryd.underlying22 (hval 1 22 v1 rfl rfl)
  obtain ⟨a1, w1⟩ : ∃ a, FactBytes W (.slice x1 l1 c1) a := by
    obtain ⟨fuel, hf⟩ := h1
    obtain ⟨v', a, hcs, hs⟩ := open_bytes Tryd.underlying22 Tryd.underlying5 (by kernel_rfl) hf
    obtain rfl : v' = .slice x1 l1 c1 := by simpa [Value.cells] using hcs.symm
    exact ⟨a, hs⟩
  clear hA0
  refine (walk (.slice x0 l0 c0) a0 (.slice x1 l1 c1) a1 W w0 w1 (Tab_of hL)).mono fun e W' ⟨he, bel⟩ => ?_
  subst he
  exact ⟨_, rfl, _, _, _, [], _, [], hW', trodAll_mk1 (shut_bool Tryd.underlying4 _), (trodAll_cons_mk (Below.trod laidOut (by kernel_rfl) (of_decide_eq_true (by kernel_rfl)) k0 bel lt0) (trodAll_cons_mk (Below.trod laidOut (by kernel_rfl) (of_decide_eq_true (by kernel_rfl)) k1 bel lt1) trodAll_mk0)), rfl, bel.frame _, fun h => by cases h⟩

set_option maxRecDepth 100000 in
theorem lifted (os : Os) (started : os.Started) (H : Type) (enc : TypeId × Value → H) (F : Stop.Interp) :
    ReturnsInHanded {} Tryd.checked os 3 .any ((OpenSpec.ofChange Rows.recordTellsSpec).preRow enc Tryd.prog Tryd.f3 Rows.recordTellsRow.domain false Rows.recordTellsRow.laid) (((OpenSpec.ofChange Rows.recordTellsSpec).at F).post enc Tryd.prog Tryd.f3 false true false false) := by
  obtain ⟨places, hx⟩ := reads os enc
  refine returnsInHanded_of_row (C := Tryd.checked) (s := OpenSpec.ofChange Rows.recordTellsSpec) own started (by kernel_rfl) Tryd.func3
    (witness_row_at (enc := enc) (C := Tryd.checked) false (laidWorld os) #[.slice none 0 0, .slice none 0 0] rfl (by kernel_rfl) (by kernel_rfl) (by kernel_rfl)
      (OpenSpec.preRow_of_cond 8 hx (by kernel_rfl) (fun k hk => by cases hk) (by kernel_rfl) (laid_met os))) ?_
  intro W base args ds gs before hval hW _ _ _ hL _ _
  exact contract H enc W base args ds gs before hval hW hL

theorem said : Rows.RecordTellsSaid :=
  OpenClaim.holds_of_cond 3 Tryd.f3 rfl rfl rfl rfl rfl rfl rfl ⟨rfl, rfl, rfl, rfl, rfl⟩ rfl rfl rfl rfl rfl (by kernel_rfl) Tryd.func3 (by kernel_rfl)
    (of_decide_eq_true (by kernel_rfl)) (by unfold Func.isWrapper; first | (rw [if_pos (by decide +kernel)]; kernel_rfl) | (rw [if_neg (by decide +kernel)]; exact ⟨rfl, rfl⟩))
    (fun os started H enc _ F => by rw [OpenClaim.pre_eq_preRow]; exact lifted os started H enc F)

theorem plain (f : FuncId) (fn : Func) (hf : Tryd.pinned.checked.prog.funcNamed "rick/ricklaw04.RecordTells" = some f) (hfn : Tryd.pinned.checked.prog.funcs[f]? = some fn) :
    false = Tryd.pinned.checked.prog.looks [] ∧ ∀ (j : Nat) t, fn.params[j]? = some t → Tryd.pinned.checked.prog.wantsStandIn t = false := by
  obtain rfl : f = 3 := Option.some.inj ((show Tryd.prog.funcNamed "rick/ricklaw04.RecordTells" = some 3 by kernel_rfl).symm.trans hf) |>.symm
  obtain rfl : fn = Tryd.f3 := (Option.some.inj (Tryd.func3.symm.trans hfn)).symm
  refine ⟨by kernel_rfl, fun j t ht => ?_⟩
  rw [Tryd.params3] at ht
  have hm := Array.mem_of_getElem? ht
  simp only [List.mem_toArray, List.mem_cons, List.not_mem_nil, or_false] at hm
  rcases hm with rfl | rfl
  · exact (show Tryd.prog.wantsStandIn 22 = false by kernel_rfl)
  · exact (show Tryd.prog.wantsStandIn 22 = false by kernel_rfl)

/-- The statement: its tied card. -/
theorem proved : Rows.RecordTellsCardSaid :=
  Claim7.holds_tied_plain_at .later [] _ _ _ _ said (fun _ h => by cases h) (by kernel_rfl) (fun _ h => by cases h) recordTells_row_tie rfl ⟨rfl, rfl⟩ (by kernel_rfl) rfl plain (by kernel_rfl)
#print axioms proved
end Go.Proofs.YtjnhgoedhggocaaDoor.recordTells
