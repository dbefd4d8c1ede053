/-
  RecordBehind: for all bytes a, b: records behind records are told as by themselves; scanned again from anywhere else it is as the document says. Condition: the table of package digest holds what its initialiser lays (the card ties it to the program's text).
-/
import Derived.Test.YtjnhgoedhggocaaDoorRecAw
import Derived.Test.YtjnhgoedhggocaaDoorRefS
import Derived.Test.YtjnhgoedhggocaaDoorHSame
import Derived.Test.YtjnhgoedhggocaaDoorTab
namespace Go.Proofs.YtjnhgoedhggocaaDoor.recordBehind
open Go.ChangeShapes Go.WideShapes Go.ChangeAt Go.RowKit

section
set_option maxRecDepth 100000
set_option maxHeartbeats 2000000
theorem walk_big (v0 : Value) (b : List UInt8) (v1 : Value) (x : List UInt8) (w : World) (h0 : FactBytes w v0 b) (h1 : FactBytes w v1 x) (ht : Tab w) (h : 300 < b.length ∨ 300 < x.length) :
    Calls Tryd.prog 5 #[v0, v1] w fun e w' => e = .returned (.bool true) ∧ Below w.heap.size w w' := by
  obtain ⟨s0, l0⟩ := h0
  obtain ⟨s1, l1⟩ := h1
  obtain ⟨a0, c0, rfl⟩ := s0.form
  obtain ⟨a1, c1, rfl⟩ := s1.form
  rw [Lib.byteCells_length] at s0 s1 ⊢
  rw [Lib.byteCells_length]
  unfold maxLen at l0 l1
  by_cases hb : 300 < b.length
  · have hb' : (300 : Int) < (b.length : Int) := by omega
    clear h hb
    go_enter Tryd.func5, Tryd.ntmps5
    go_wp2_with fail
    refine (awake_any w ht).mono ?_
    rintro e w1 ⟨rfl, hb1⟩
    go_wp2
    go_ret
    exact ⟨rfl, hb1⟩
  · have hb' : ¬ (300 : Int) < (b.length : Int) := by omega
    have hx' : (300 : Int) < (x.length : Int) := by omega
    clear h hb
    go_enter Tryd.func5, Tryd.ntmps5
    go_wp2_with fail
    refine (awake_any w ht).mono ?_
    rintro e w1 ⟨rfl, hb1⟩
    go_wp2
    go_ret
    exact ⟨rfl, hb1⟩

theorem two (a b : List UInt8) (ha : a.length ≤ 300) (hb : b.length ≤ 300) : scanOf (frameOf a ++ frameOf b) = ([a, b], a.length + b.length + 16) := by
  have h2 : scanOf (frameOf b) = ([b], 8 + b.length) := by
    have := scanOf_frame b [] (by omega)
    rw [List.append_nil, scanOf_short (bs := []) (by decide)] at this
    simpa using this
  rw [scanOf_frame a _ (by omega), h2]
  simp
  omega

theorem walk_at (v0 : Value) (a : List UInt8) (v1 : Value) (b : List UInt8) (w : World) (s0 : Sl w v0 (Lib.byteCells a)) (s1 : Sl w v1 (Lib.byteCells b)) (ht : Tab w) (ha : a.length ≤ 300) (hb : b.length ≤ 300) :
    Calls Tryd.prog 5 #[v0, v1] w fun e w' => e = .returned (.bool true) ∧ Below w.heap.size w w' := by
  obtain ⟨i0, hi0, hi1, hi2, hi3⟩ := info_parts Tryd.info5
  obtain ⟨a0, c0, rfl⟩ := s0.form
  obtain ⟨a1, c1, rfl⟩ := s1.form
  rw [Lib.byteCells_length] at s0 s1 ⊢
  rw [Lib.byteCells_length]
  have ha' : ¬ (300 : Int) < (a.length : Int) := by omega
  have hb' : ¬ (300 : Int) < (b.length : Int) := by omega
  have HFA := hid (frameOf_length a)
  have HFB := hid (frameOf_length b)
  have HCA := hid (show (Lib.byteCells (frameOf a)).length = 8 + a.length by rw [Lib.byteCells_length, frameOf_length])
  have HCB := hid (show (Lib.byteCells (frameOf b)).length = 8 + b.length by rw [Lib.byteCells_length, frameOf_length])
  go_enter Tryd.func5, Tryd.ntmps5
  go_wp2_with fail
  refine (PFrame_any _ a (by omega) w s0 ht).mono ?_
  rintro e w1 ⟨x, rfl, hx, hb1⟩
  have hz1 := hb1.size
  obtain ⟨ax, cx, rfl⟩ := owns_form hx
  have g1 : 0 + (Lib.byteCells (frameOf a)).length ≤ maxLen := by rw [HCA.out]; unfold maxLen; omega
  have g2 : (0 + (Lib.byteCells (frameOf a)).length) * 1 ≤ 140737488355328 := by rw [HCA.out]; omega
  have sx := Sl.ofOwns hx
  go_wp2_with (refine wpList_append_any _ rfl (.const (.slice none 0 0)) (.tmp 24) _ _ rfl w1.heap.size 5 i0 _ 1 1 Tryd.underlying22 hi0 hi1 hi2 hi3 rfl (by omega) (.slice none 0 0) 0 [] rfl (World.ownsRow_nil _ _ _ _) _ _ _ rfl (sx.src Tryd.underlying22 (byte_one _)) g1 g2 (Nat.le_refl _) ?_; intro v2 w2 hown2 hgrow2 hat2; have hb2 := (Below.refl w1.heap.size w1).grown hgrow2 (Nat.le_refl _) (by simp [Value.ownBlock]); rw [Nat.zero_add, List.nil_append, HCA.out] at hown2; obtain ⟨a2, c2, rfl⟩ := owns_form hown2; clear hgrow2 hat2 g1 g2)
  have hbw2 := below_step hb1 hb2 hz1
  have hz2 := hb2.size
  clear hx
  refine (PFrame_any _ b (by omega) w2 (Sl.old s1 hbw2) (ht.old hbw2 ht.pos)).mono ?_
  rintro e w3 ⟨y, rfl, hy, hb3⟩
  have hbw3 := below_step hbw2 hb3 (by omega)
  have hz3 := hb3.size
  obtain ⟨ay, cy, rfl⟩ := owns_form hy
  have hown3 : w3.ownsRow w1.heap.size 5 1 (Value.slice a2 (8 + a.length) c2) (8 + a.length) (Lib.byteCells (frameOf a)) := (Keep.ofBelow (S := fun _ => False) hb3).owns hown2 fun _ _ h => h
  have sy := Sl.ofOwns hy
  have g1 : 8 + a.length + (Lib.byteCells (frameOf b)).length ≤ maxLen := by rw [HCB.out]; unfold maxLen; omega
  have g2 : (8 + a.length + (Lib.byteCells (frameOf b)).length) * 1 ≤ 140737488355328 := by rw [HCB.out]; omega
  clear hown2 hy
  go_wp2_with (refine wpList_append_any _ rfl (.tmp 25) (.tmp 27) _ _ rfl w1.heap.size 5 i0 _ 1 1 Tryd.underlying22 hi0 hi1 hi2 hi3 rfl (by omega) (Value.slice a2 (8 + a.length) c2) _ _ rfl hown3 _ _ _ rfl (sy.src Tryd.underlying22 (byte_one _)) g1 g2 (by omega) ?_; intro v4 w4 hown4 hgrow4 hat4)
  have hb4 : Below w1.heap.size w1 w4 := (hb2.trans (hb3.mono hz2)).grown hgrow4 (by omega) (fun j hj => (hown3.lt j hj).1)
  have hbw4 := below_step hb1 hb4 hz1
  have hz4 := hb4.size
  have s4 : Sl w4 v4 (Lib.byteCells (frameOf a ++ frameOf b)) := by
    rw [Lib.byteCells_append]
    exact Sl.ofOwns hown4
  have sx4 : Sl w4 (Value.slice ax (8 + a.length) cx) (Lib.byteCells (frameOf a)) := Sl.old sx hb4
  clear hown4 hgrow4 hat4 hown3 sy g1 g2 sx
  refine (PScan_any v4 _ (by rw [List.length_append, HFA.out, HFB.out]; omega) w4 s4 (ht.old hbw4 ht.pos)).mono ?_
  rw [two a b ha hb]
  rintro e w5 ⟨l, rfl, hown5, hb5⟩
  have hbw5 := below_step hbw4 hb5 (by omega)
  have hz5 := hb5.size
  have sx5 := Sl.old sx4 hb5
  clear s4 sx4
  go_wp2_with fail
  refine (awake_any w5 (ht.old hbw5 ht.pos)).mono ?_
  rintro e w6 ⟨rfl, hb6⟩
  have hbw6 := below_step hbw5 hb6 (by omega)
  have hz6 := hb6.size
  have sx6 := Sl.old sx5 hb6
  have hown6 := hown5.old hb6
  obtain ⟨al, cl, rfl⟩ := hown6.form
  obtain ⟨p, bx, kx, q1, rfl, hc1, hq1, hs1⟩ := hown6.slB.at (i := 0) (by simp)
  obtain ⟨p', by', ky, q2, e', hc2, hq2, hs2⟩ := hown6.slB.at (i := 1) (by simp)
  obtain rfl : p = p' := by simpa using e'
  obtain rfl : a = q1 := by simpa using hq1
  obtain rfl : b = q2 := by simpa using hq2
  rw [show p.add 0 = p from rfl] at hc1
  obtain ⟨pb, po, ps⟩ := p
  have hc2' : w6.cell? ⟨pb, po + 1, none⟩ = some (.slice by' b.length ky) := hc2
  rw [show ([a, b] : List (List UInt8)).length = 2 from rfl]
  have hsum : (((a.length + b.length + 16 : Nat) : Int) != (a.length : Int) + (b.length : Int) + 16) = false := by simp
  have hw1 : IntKind.i64.wrap ((a.length : Int) + (b.length : Int)) = (a.length : Int) + (b.length : Int) := IntWalk.i64_in _ (by omega)
  have hw2 : IntKind.i64.wrap ((a.length : Int) + (b.length : Int) + 16) = (a.length : Int) + (b.length : Int) + 16 := IntWalk.i64_in _ (by omega)
  clear hown5 hown6 sx5 hq1 hq2 e'
  have s06 := Sl.old s0 hbw6
  have s16 := Sl.old s1 hbw6
  go_wp2_with fail
  refine (HBytes_any _ _ _ _ _ hs1 s06).mono ?_
  rw [show (a == a) = true by simp]
  rintro e w7 ⟨rfl, rfl⟩
  go_wp2_with fail
  refine (HBytes_any _ _ _ _ _ hs2 s16).mono ?_
  rw [show (b == b) = true by simp]
  rintro e w7 ⟨rfl, rfl⟩
  clear hc1 hc2 hc2' hs1 hs2 s06 s16
  obtain ⟨vm, rm, sm, fm, am, cm, rfl⟩ := run_slice_from (P := Tryd.prog) 22 5 Tryd.underlying22 hi0 hi2 sx6 1 (by rw [HCA.out]; omega)
  rw [← byteCells_drop] at sm
  rw [HCA.out, show ((1 : Nat) : Int) = 1 from rfl, show 8 + a.length - 1 = 7 + a.length by omega] at rm
  rw [HCA.out, show 8 + a.length - 1 = 7 + a.length by omega] at sm
  have hlx : ((8 : Int) + (a.length : Int) == 0) = false := by simp; omega
  have hly : ((8 : Int) + (a.length : Int) == (a.length : Int) + 8) = true := by simp; omega
  have hw3 : IntKind.i64.wrap ((a.length : Int) + 8) = (a.length : Int) + 8 := IntWalk.i64_in _ (by omega)
  obtain ⟨D, hD⟩ : ∃ D, D = (frameOf a).drop 1 := ⟨_, rfl⟩
  have hDl : D.length ≤ 1000 := by rw [hD, List.length_drop, HFA.out]; omega
  rw [← hD] at sm
  clear hD fm sx6
  go_wp2_with fail
  refine (PScan_any _ D (by omega) w6 sm (ht.old hbw6 ht.pos)).mono ?_
  rintro e w7 ⟨l, rfl, hl, hb7⟩
  have hbw7 := below_step hbw6 hb7 hbw6.size
  have hz7 := hb7.size
  go_wp2_with fail
  refine (RScan_any _ D (by omega) w7 (Sl.old sm hb7)).mono ?_
  rintro e w8 ⟨m, rfl, hm, hb8⟩
  have hbw8 := below_step hbw7 hb8 hbw7.size
  have hl8 := hl.old hb8
  have hcnt := scanOf_count D
  obtain ⟨SC, hSC⟩ : ∃ SC, scanOf D = SC := ⟨_, rfl⟩
  rw [hSC] at hl8 hm hcnt ⊢
  have hcnt' : SC.1.length ≤ maxLen := by unfold maxLen; omega
  have hee : (SC.1 == SC.1) = true := by simp
  clear hSC hcnt hl
  go_wp2_with fail
  refine (HSame_any _ _ _ _ _ hl8.slB hm.slB hcnt').mono ?_
  rw [hee]
  rintro e w9 ⟨rfl, q, rfl⟩
  have hd : Below w8.heap.size w8 (w8.drewN q) := ⟨rfl, rfl, rfl, Nat.le_refl _, fun _ _ => rfl⟩
  have hbw9 := below_step hbw8 hd hbw8.size
  clear hl8 hm hee
  go_wp2
  go_ret
  exact ⟨rfl, hbw9⟩
end

theorem walk (v0 : Value) (b : List UInt8) (v1 : Value) (x : List UInt8) (w : World) (h0 : FactBytes w v0 b) (h1 : FactBytes w v1 x) (ht : Tab w) :
    Calls Tryd.prog 5 #[v0, v1] w fun e w' => e = .returned (.bool true) ∧ Below w.heap.size w w' := by
  by_cases h : b.length ≤ 300 ∧ x.length ≤ 300
  · exact walk_at v0 b v1 x w h0.1 h1.1 ht h.1 h.2
  · exact walk_big v0 b v1 x w h0 h1 ht (by omega)

theorem own : ownKnob Tryd.prog.godebug = none := by kernel_rfl
theorem laidOut : laidOutB Tryd.prog = true := by kernel_rfl
theorem laid_met (os : Os) : laidMet Tryd.prog Rows.recordBehindRow.laid ((laidWorld os).forCall (fun _ _ => 0) ⟨#[], #[.slice none 0 0, .slice none 0 0], []⟩).memory :=
  laidMet_of_run' 8 (by kernel_rfl) (by kernel_rfl)
theorem reads (os : Os) {H : Type} (enc : TypeId × Value → H) : ∃ places, DataW.whole enc Tryd.prog ((laidWorld os).forCall (fun _ _ => 0) ⟨#[], #[.slice none 0 0, .slice none 0 0], []⟩).memory Tryd.f5.params.toList Rows.recordBehindSpec.vars false (#[.slice none 0 0, .slice none 0 0] : Array Value).toList 8 = some ([.nil, .nil], [], places) :=
  ⟨[], by kernel_rfl⟩

theorem contract (H : Type) (enc : TypeId × Value → H) (W : World) (base : Nat) (args : Array Value) (ds gs : List (DataW H)) (before : List MemPlace)
    (hval : ∀ (j : Nat) t v, Tryd.f5.params[j]? = some t → args[j]? = some v → Value.okWide Tryd.prog W .any base t v)
    (hW : DataW.Whole enc Tryd.prog Tryd.f5.params.toList Rows.recordBehindSpec.vars false W args.toList ds gs before) (hL : laidMetH Tryd.prog Rows.recordBehindRow.laid W) :
    Calls Tryd.prog 5 args W fun e W' => ∃ v, e = .returned v ∧ Rows.recordBehindSpec.post enc Tryd.prog Tryd.f5 false true false false W args v W' := by
  have hW' := hW
  obtain ⟨p, q, hA0, hV, rfl, hfz, hnd⟩ := hW
  have hA : DataW.TrodAll enc Tryd.prog W 0 (fun _ => true) true Tryd.f5.params.toList args.toList ds p := hA0
  rw [Tryd.params5] at hA hval
  obtain ⟨v0, vs0, d0, ds0, p0, q0, hargs, rfl, rfl, h0, r0⟩ := trodAll_cons hA
  obtain ⟨v1, vs1, d1, ds1, p1, q1, rfl, rfl, rfl, h1, r1⟩ := trodAll_cons r0
  obtain ⟨rfl, rfl, rfl⟩ := trodAll_nil r1
  obtain rfl : args = #[v0, v1] := by cases args; simp_all
  obtain ⟨rfl, rfl⟩ := trodVars_none hV
  have k0 := h0
  have lt0 : ∀ x ∈ p0, x.block < W.heap.size := by obtain ⟨m, hm⟩ := k0; exact DataW.trod_lt m _ _ _ hm
  obtain ⟨x0, l0, c0, rfl⟩ := okWide_slice Tryd.underlying22 (hval 0 22 v0 rfl rfl)
  obtain ⟨a0, w0⟩ : ∃ a, FactBytes W (.slice x0 l0 c0) a := by
    obtain ⟨fuel, hf⟩ := h0
    obtain ⟨v', a, hcs, hs⟩ := open_bytes Tryd.underlying22 Tryd.underlying5 (by kernel_rfl) hf
    obtain rfl : v' = .slice x0 l0 c0 := by simpa [Value.cells] using hcs.symm
    exact ⟨a, hs⟩
  have k1 := h1
  have lt1 : ∀ x ∈ p1, x.block < W.heap.size := by obtain ⟨m, hm⟩ := k1; exact DataW.trod_lt m _ _ _ hm
  obtain ⟨x1, l1, c1, rfl⟩ := okWide_slice Tryd.underlying22 (hval 1 22 v1 rfl rfl)
  obtain ⟨a1, w1⟩ : ∃ a, FactBytes W (.slice x1 l1 c1) a := by
    obtain ⟨fuel, hf⟩ := h1
    obtain ⟨v', a, hcs, hs⟩ := open_bytes Tryd.underlying22 Tryd.underlying5 (by kernel_rfl) hf
    obtain rfl : v' = .slice x1 l1 c1 := by simpa [Value.cells] using hcs.symm
    exact ⟨a, hs⟩
  clear hA0
  refine (walk (.slice x0 l0 c0) a0 (.slice x1 l1 c1) a1 W w0 w1 (Tab_of hL)).mono fun e W' ⟨he, bel⟩ => ?_
  subst he
  exact ⟨_, rfl, _, _, _, [], _, [], hW', trodAll_mk1 (shut_bool Tryd.underlying4 _), (trodAll_cons_mk (Below.trod laidOut (by kernel_rfl) (of_decide_eq_true (by kernel_rfl)) k0 bel lt0) (trodAll_cons_mk (Below.trod laidOut (by kernel_rfl) (of_decide_eq_true (by kernel_rfl)) k1 bel lt1) trodAll_mk0)), rfl, bel.frame _, fun h => by cases h⟩

set_option maxRecDepth 100000 in
theorem lifted (os : Os) (started : os.Started) (H : Type) (enc : TypeId × Value → H) (F : Stop.Interp) :
    ReturnsInHanded {} Tryd.checked os 5 .any ((OpenSpec.ofChange Rows.recordBehindSpec).preRow enc Tryd.prog Tryd.f5 Rows.recordBehindRow.domain false Rows.recordBehindRow.laid) (((OpenSpec.ofChange Rows.recordBehindSpec).at F).post enc Tryd.prog Tryd.f5 false true false false) := by
  obtain ⟨places, hx⟩ := reads os enc
  refine returnsInHanded_of_row (C := Tryd.checked) (s := OpenSpec.ofChange Rows.recordBehindSpec) own started (by kernel_rfl) Tryd.func5
    (witness_row_at (enc := enc) (C := Tryd.checked) false (laidWorld os) #[.slice none 0 0, .slice none 0 0] rfl (by kernel_rfl) (by kernel_rfl) (by kernel_rfl)
      (OpenSpec.preRow_of_cond 8 hx (by kernel_rfl) (fun k hk => by cases hk) (by kernel_rfl) (laid_met os))) ?_
  intro W base args ds gs before hval hW _ _ _ hL _ _
  exact contract H enc W base args ds gs before hval hW hL

theorem said : Rows.RecordBehindSaid :=
  OpenClaim.holds_of_cond 5 Tryd.f5 rfl rfl rfl rfl rfl rfl rfl ⟨rfl, rfl, rfl, rfl, rfl⟩ rfl rfl rfl rfl rfl (by kernel_rfl) Tryd.func5 (by kernel_rfl)
    (of_decide_eq_true (by kernel_rfl)) (by unfold Func.isWrapper; first | (rw [if_pos (by decide +kernel)]; kernel_rfl) | (rw [if_neg (by decide +kernel)]; exact ⟨rfl, rfl⟩))
    (fun os started H enc _ F => by rw [OpenClaim.pre_eq_preRow]; exact lifted os started H enc F)

theorem plain (f : FuncId) (fn : Func) (hf : Tryd.pinned.checked.prog.funcNamed "rick/ricklaw04.RecordBehind" = some f) (hfn : Tryd.pinned.checked.prog.funcs[f]? = some fn) :
    false = Tryd.pinned.checked.prog.looks [] ∧ ∀ (j : Nat) t, fn.params[j]? = some t → Tryd.pinned.checked.prog.wantsStandIn t = false := by
  obtain rfl : f = 5 := Option.some.inj ((show Tryd.prog.funcNamed "rick/ricklaw04.RecordBehind" = some 5 by kernel_rfl).symm.trans hf) |>.symm
  obtain rfl : fn = Tryd.f5 := (Option.some.inj (Tryd.func5.symm.trans hfn)).symm
  refine ⟨by kernel_rfl, fun j t ht => ?_⟩
  rw [Tryd.params5] at ht
  have hm := Array.mem_of_getElem? ht
  simp only [List.mem_toArray, List.mem_cons, List.not_mem_nil, or_false] at hm
  rcases hm with rfl | rfl
  · exact (show Tryd.prog.wantsStandIn 22 = false by kernel_rfl)
  · exact (show Tryd.prog.wantsStandIn 22 = false by kernel_rfl)

/-- The statement: its tied card. -/
theorem proved : Rows.RecordBehindCardSaid :=
  Claim7.holds_tied_plain_at .later [] _ _ _ _ said (fun _ h => by cases h) (by kernel_rfl) (fun _ h => by cases h) recordBehind_row_tie rfl ⟨rfl, rfl⟩ (by kernel_rfl) rfl plain (by kernel_rfl)
#print axioms proved
end Go.Proofs.YtjnhgoedhggocaaDoor.recordBehind
