/-
  DigestOrder: for every two keys, of two that differ one is the lesser, of two that are alike none is; and the lesser one's digits stand ahead of the other's. Condition: the package's table of words holds what its initialiser lays (the card ties it to the program's text).
-/
import Derived.Test.YtmfanfocfmaogaaDoorDigG
namespace Go.Proofs.YtmfanfocfmaogaaDoor.digestOrder
open Go.ChangeShapes Go.WideShapes Go.ChangeAt Go.RowKit

theorem lessK_anti {a b : List UInt8} (h : lessK a b = true) : lessK b a = false := by
  induction a generalizing b with
  | nil => simp [lessK] at h
  | cons x a ih =>
    match b, h with
    | y :: b, h =>
      by_cases e : x = y
      · subst e
        simp only [lessK, if_true] at h ⊢
        exact ih h
      · have hne : ¬ y = x := fun h => e h.symm
        simp only [lessK, if_neg e, if_neg hne, decide_eq_true_eq, decide_eq_false_iff_not] at h ⊢
        omega
theorem lessK_total {a b : List UInt8} (hl : a.length = b.length) (h1 : lessK a b = false) (h2 : lessK b a = false) : a = b := by
  induction a generalizing b with
  | nil => rw [List.eq_nil_of_length_eq_zero hl.symm]
  | cons x a ih =>
    match b, hl with
    | y :: b, hl =>
      by_cases e : x = y
      · subst e
        simp only [lessK, if_true] at h1 h2
        rw [ih (by simpa using hl) h1 h2]
      · have hne : ¬ y = x := fun h => e h.symm
        simp only [lessK, if_neg e, if_neg hne, decide_eq_false_iff_not] at h1 h2
        exact absurd (UInt8.toNat_inj.1 (by omega)) e

theorem Less_at (a b : List UInt8) (x : Bool) (h : lessK a b = x) (ha : a.length = 32) (hb : b.length = 32) (w : World) :
    Calls Tryd.prog 13 #[.agg (Lib.byteCells a).toArray, .agg (Lib.byteCells b).toArray] w fun e w' => e = .returned (.bool x) ∧ Below w.heap.size w w' := by
  rw [← h]
  exact Less_any a b ha hb w
theorem Hex_at (a : List UInt8) (ha : a.length = 32) (w : World) :
    Calls Tryd.prog 11 #[.agg (Lib.byteCells a).toArray] w fun e w' => e = .returned (.string ⟨(Sha.hex a).toArray⟩) ∧ Below w.heap.size w w' := Hex_any a ha w

theorem range_of {w : World} {b : Nat} {l : List Value} {t : TypeId} {fr : Nat × Nat} (h : w.heap[b]? = some (.cells l.toArray t fr)) : w.rangeAt b 0 l := by
  intro j v hv
  simp [World.cell?, h, hv]
theorem range_old {w w' : World} {b o : Nat} {l : List Value} (h : w.rangeAt b o l) (hk : Below w.heap.size w w') : w'.rangeAt b o l := by
  intro j v hv
  have hc := h j v hv
  exact (World.cell?_of_block (w := w) (hk.block _ (World.block_lt_of_cell? w _ hc))).trans hc
/-- What the walk holds on to. -/
def Held (w : World) (b c : Nat) (l m : List Value) (wy : World) : Prop := wy.rangeAt b 0 l ∧ wy.rangeAt c 0 m ∧ Tab wy ∧ Below w.heap.size w wy
theorem Held.on {w wy wz : World} {b c : Nat} {l m : List Value} (h : Held w b c l m wy) (hk : Below wy.heap.size wy wz) : Held w b c l m wz :=
  ⟨range_old h.1 hk, range_old h.2.1 hk, h.2.2.1.old hk h.2.2.1.pos, below_step h.2.2.2 hk h.2.2.2.size⟩
theorem Held.drew {w wy : World} {b c : Nat} {l m : List Value} (h : Held w b c l m wy) : Held w b c l m wy.drew := h.on ⟨rfl, rfl, rfl, Nat.le_refl _, fun _ _ => rfl⟩

set_option maxRecDepth 100000 in
set_option maxHeartbeats 4000000 in
theorem walk_at (a b : List UInt8) (x y : Bool) (hx : lessK a b = x) (hy : lessK b a = y) (hxy : (x && y) = false) (heq : (a == b) = !(x || y)) (w : World) (ha : a.length = 32) (hb : b.length = 32) (ht : Tab w) :
    Calls Tryd.prog 5 #[keyV a, keyV b] w fun e w' => e = .returned (.bool true) ∧ Below w.heap.size w w' := by
  obtain ⟨C, hC⟩ : ∃ C, C = Held w w.heap.size (w.heap.size + 1) (Lib.byteCells a) (Lib.byteCells b) := ⟨_, rfl⟩
  have hC0 : C ((w.alloc (.cells (Lib.byteCells a).toArray 24)).alloc (.cells (Lib.byteCells b).toArray 24)) := by
    have hb2 : Below w.heap.size w ((w.alloc (.cells (Lib.byteCells a).toArray 24)).alloc (.cells (Lib.byteCells b).toArray 24)) := ((Below.refl _ _).alloc (Nat.le_refl _) _).alloc (by simp) _
    rw [hC]
    exact ⟨range_of (heap_alloc2_old w _ _), range_of (heap_alloc2_new w _ _), ht.old hb2 ht.pos, hb2⟩
  have hCd : ∀ wy, C wy → C wy.drew := by rw [hC]; exact fun _ h => h.drew
  have hCo : ∀ wy wz, C wy → Below wy.heap.size wy wz → C wz := by rw [hC]; exact fun _ _ h hk => h.on hk
  have hCa : ∀ wy, C wy → wy.rangeAt w.heap.size 0 (Lib.byteCells a) := by rw [hC]; exact fun _ h => h.1
  have hCb : ∀ wy, C wy → wy.rangeAt (w.heap.size + 1) 0 (Lib.byteCells b) := by rw [hC]; exact fun _ h => h.2.1
  have hCt : ∀ wy, C wy → Tab wy := by rw [hC]; exact fun _ h => h.2.2.1
  have hCw : ∀ wy, C wy → Below w.heap.size w wy := by rw [hC]; exact fun _ h => h.2.2.2
  have hia : (Tryd.prog.info? 24).map (·.size) = some (Lib.byteCells a).length := by rw [Lib.byteCells_length, ha, Tryd.sizeKey]
  have hib : (Tryd.prog.info? 24).map (·.size) = some (Lib.byteCells b).length := by rw [Lib.byteCells_length, hb, Tryd.sizeKey]
  obtain ⟨i0, hi0, hi1, hi2, hi3⟩ := info_parts Tryd.info5
  have hne := run_eq_key Tryd.underlying24 Tryd.underlying5 hi0 cellsU8 a b ha hb
  rw [heq] at hne
  have hlt : Op.bytesLess (Sha.hex a) (Sha.hex b) = x := by rw [hex_less a b (by rw [ha, hb]), hx]
  have HL1 := hid (show ∀ wy, C wy → Calls Tryd.prog 13 #[.agg (Lib.byteCells a).toArray, .agg (Lib.byteCells b).toArray] wy fun e w' => e = .returned (.bool x) ∧ C w' from fun wy hy' => (Less_at a b x hx ha hb wy).mono fun e w' ⟨h1, h2⟩ => ⟨h1, hCo _ _ hy' h2⟩)
  have HL2 := hid (show ∀ wy, C wy → Calls Tryd.prog 13 #[.agg (Lib.byteCells b).toArray, .agg (Lib.byteCells a).toArray] wy fun e w' => e = .returned (.bool y) ∧ C w' from fun wy hy' => (Less_at b a y hy hb ha wy).mono fun e w' ⟨h1, h2⟩ => ⟨h1, hCo _ _ hy' h2⟩)
  have HA := hid (show ∀ wy, C wy → Calls Tryd.prog 7 #[] wy fun e w' => e = .returned (.bool true) ∧ C w' from fun wy hy' => (awake_any wy (hCt wy hy')).mono fun e w' ⟨h1, h2⟩ => ⟨h1, hCo _ _ hy' h2⟩)
  have HH1 := hid (show ∀ wy, C wy → Calls Tryd.prog 11 #[.agg (Lib.byteCells a).toArray] wy fun e w' => e = .returned (.string ⟨(Sha.hex a).toArray⟩) ∧ C w' from fun wy hy' => (Hex_at a ha wy).mono fun e w' ⟨h1, h2⟩ => ⟨h1, hCo _ _ hy' h2⟩)
  have HH2 := hid (show ∀ wy, C wy → Calls Tryd.prog 11 #[.agg (Lib.byteCells b).toArray] wy fun e w' => e = .returned (.string ⟨(Sha.hex b).toArray⟩) ∧ C w' from fun wy hy' => (Hex_at b hb wy).mono fun e w' ⟨h1, h2⟩ => ⟨h1, hCo _ _ hy' h2⟩)
  have HCD := hid hCd
  have HCA := hid hCa
  have HCB := hid hCb
  have HCW := hid hCw
  have HIA := hid hia
  have HIB := hid hib
  clear hC hx hy hCo hCd hCa hCb hCt hCw hia hib heq hi0 hi1 hi2 hi3
  unfold keyV
  go_enter Tryd.func5, Tryd.ntmps5
  go_wp2
  refine quiet_region C (by kernel_rfl) (by kernel_rfl) (HCD.out _ hC0) ?_
  clear hC0
  repeat (first
    | go_big_quiet_skip
    | (go_big_quiet_want; first
      | (refine quiet_load 24 _ rfl w.heap.size 0 rfl _ _ HCA.out Tryd.underlying24 rfl HIA.out ?_; simp only [Act.put, List.setIfInBounds_toArray, List.set_cons_zero, List.set_cons_succ]; go_big_quiet_on)
      | (refine quiet_load 24 _ rfl (w.heap.size + 1) 0 rfl _ _ HCB.out Tryd.underlying24 rfl HIB.out ?_; simp only [Act.put, List.setIfInBounds_toArray, List.set_cons_zero, List.set_cons_succ]; go_big_quiet_on)
      | (go_big_quiet_op; first
        | go_big_quiet_on
        | (apply Exists.intro; with_reducible refine ⟨fun _ _ => rfl, ?_⟩; go_big_quiet_on)
        | (apply Exists.intro
           refine ⟨fun wy hy => ?_, ?_⟩
           · (first | with_reducible exact HL1.out wy hy | with_reducible exact HL2.out wy hy | with_reducible exact HA.out wy hy | with_reducible exact HH1.out wy hy | with_reducible exact HH2.out wy hy)
           go_big_quiet_on))))
  refine wpQuiet_nil ?_
  intro w5 hC5
  go_wp2
  refine quiet_region C (by kernel_rfl) (by kernel_rfl) (HCD.out _ hC5) ?_
  clear hC5
  cases x <;> cases y
  case true.true => cases hxy
  all_goals
    repeat (first
      | go_big_quiet_skip
      | (go_big_quiet_want; first
        | (refine quiet_load 24 _ rfl w.heap.size 0 rfl _ _ HCA.out Tryd.underlying24 rfl HIA.out ?_; simp only [Act.put, List.setIfInBounds_toArray, List.set_cons_zero, List.set_cons_succ]; go_big_quiet_on)
        | (refine quiet_load 24 _ rfl (w.heap.size + 1) 0 rfl _ _ HCB.out Tryd.underlying24 rfl HIB.out ?_; simp only [Act.put, List.setIfInBounds_toArray, List.set_cons_zero, List.set_cons_succ]; go_big_quiet_on)
        | (go_big_quiet_op; first
          | go_big_quiet_on
          | (apply Exists.intro; with_reducible refine ⟨fun _ _ => rfl, ?_⟩; go_big_quiet_on)
          | (apply Exists.intro
             refine ⟨fun wy hy => ?_, ?_⟩
             · (first | with_reducible exact HL1.out wy hy | with_reducible exact HL2.out wy hy | with_reducible exact HA.out wy hy | with_reducible exact HH1.out wy hy | with_reducible exact HH2.out wy hy)
             go_big_quiet_on))))
    refine wpQuiet_nil ?_
    intro w6 hC6
    have hbw := HCW.out w6 hC6
    go_wp2
    go_ret
    exact ⟨rfl, hbw⟩

theorem walk (a b : List UInt8) (w : World) (ha : a.length = 32) (hb : b.length = 32) (ht : Tab w) :
    Calls Tryd.prog 5 #[keyV a, keyV b] w fun e w' => e = .returned (.bool true) ∧ Below w.heap.size w w' := by
  have hxy : (lessK a b && lessK b a) = false := by
    cases h : lessK a b with
    | false => rfl
    | true => rw [lessK_anti h]; rfl
  have heq : (a == b) = !(lessK a b || lessK b a) := by
    by_cases e : a = b
    · subst e
      simp [lessK_same]
    · have h1 : (a == b) = false := by simpa using e
      rw [h1]
      cases h : lessK a b with
      | true => rfl
      | false =>
        cases h' : lessK b a with
        | true => rfl
        | false => exact absurd (lessK_total (by rw [ha, hb]) h h') e
  exact walk_at a b _ _ rfl rfl hxy heq w ha hb ht

theorem own : ownKnob Tryd.prog.godebug = none := by kernel_rfl
theorem laidOut : laidOutB Tryd.prog = true := by kernel_rfl
theorem laid_met (os : Os) : laidMet Tryd.prog Rows.digestOrderRow.laid ((laidWorld os).forCall (fun _ _ => 0) ⟨#[], #[key0, key0], []⟩).memory :=
  laidMet_of_run' 8 (by kernel_rfl) (by kernel_rfl)
theorem reads (os : Os) {H : Type} (enc : TypeId × Value → H) : ∃ places, DataW.whole enc Tryd.prog ((laidWorld os).forCall (fun _ _ => 0) ⟨#[], #[key0, key0], []⟩).memory Tryd.f5.params.toList Rows.digestOrderSpec.vars false (#[key0, key0] : Array Value).toList 8 = some ([.agg (List.replicate 32 (.lit (.int .u8 0))), .agg (List.replicate 32 (.lit (.int .u8 0)))], [], places) :=
  ⟨[], by kernel_rfl⟩

theorem contract (H : Type) (enc : TypeId × Value → H) (W : World) (base : Nat) (args : Array Value) (ds gs : List (DataW H)) (before : List MemPlace)
    (hval : ∀ (j : Nat) t v, Tryd.f5.params[j]? = some t → args[j]? = some v → Value.okWide Tryd.prog W .any base t v)
    (hW : DataW.Whole enc Tryd.prog Tryd.f5.params.toList Rows.digestOrderSpec.vars false W args.toList ds gs before) (hL : laidMetH Tryd.prog Rows.digestOrderRow.laid W) :
    Calls Tryd.prog 5 args W fun e W' => ∃ v, e = .returned v ∧ Rows.digestOrderSpec.post enc Tryd.prog Tryd.f5 false true false false W args v W' := by
  have hW' := hW
  obtain ⟨p, q, hA0, hV, rfl, hfz, hnd⟩ := hW
  have hA : DataW.TrodAll enc Tryd.prog W 0 (fun _ => true) true Tryd.f5.params.toList args.toList ds p := hA0
  rw [Tryd.params5] at hA hval
  obtain ⟨v0, vs0, d0, ds0, p0, q0, hargs, rfl, rfl, h0, r0⟩ := trodAll_cons hA
  obtain ⟨v1, vs1, d1, ds1, p1, q1, rfl, rfl, rfl, h1, r1⟩ := trodAll_cons r0
  obtain ⟨rfl, rfl, rfl⟩ := trodAll_nil r1
  obtain rfl : args = #[v0, v1] := by cases args; simp_all
  obtain ⟨rfl, rfl⟩ := trodVars_none hV
  have k0 := h0
  have lt0 : ∀ x ∈ p0, x.block < W.heap.size := by obtain ⟨m, hm⟩ := k0; exact DataW.trod_lt m _ _ _ hm
  obtain ⟨a0, rfl, w0⟩ := open_key Tryd.underlying24 Tryd.underlying5 cellsU8 cellsKey (hval 0 24 v0 rfl rfl) h0
  have k1 := h1
  have lt1 : ∀ x ∈ p1, x.block < W.heap.size := by obtain ⟨m, hm⟩ := k1; exact DataW.trod_lt m _ _ _ hm
  obtain ⟨a1, rfl, w1⟩ := open_key Tryd.underlying24 Tryd.underlying5 cellsU8 cellsKey (hval 1 24 v1 rfl rfl) h1
  clear hA0
  refine (walk a0 a1 W w0 w1 (Tab_of hL)).mono fun e W' ⟨he, bel⟩ => ?_
  subst he
  exact ⟨_, rfl, _, _, _, [], _, [], hW', trodAll_mk1 (shut_bool Tryd.underlying4 _), (trodAll_cons_mk (Below.trod laidOut (by kernel_rfl) (of_decide_eq_true (by kernel_rfl)) k0 bel lt0) (trodAll_cons_mk (Below.trod laidOut (by kernel_rfl) (of_decide_eq_true (by kernel_rfl)) k1 bel lt1) trodAll_mk0)), rfl, bel.frame _, fun h => by cases h⟩

set_option maxRecDepth 100000 in
theorem lifted (os : Os) (started : os.Started) (H : Type) (enc : TypeId × Value → H) (F : Stop.Interp) :
    ReturnsInHanded {} Tryd.checked os 5 .any ((OpenSpec.ofChange Rows.digestOrderSpec).preRow enc Tryd.prog Tryd.f5 Rows.digestOrderRow.domain false Rows.digestOrderRow.laid) (((OpenSpec.ofChange Rows.digestOrderSpec).at F).post enc Tryd.prog Tryd.f5 false true false false) := by
  obtain ⟨places, hx⟩ := reads os enc
  refine returnsInHanded_of_row (C := Tryd.checked) (s := OpenSpec.ofChange Rows.digestOrderSpec) own started (by kernel_rfl) Tryd.func5
    (witness_row_at (enc := enc) (C := Tryd.checked) false (laidWorld os) #[key0, key0] rfl (by kernel_rfl) (by kernel_rfl) (by kernel_rfl)
      (OpenSpec.preRow_of_cond 8 hx (by kernel_rfl) (fun k hk => by cases hk) (by kernel_rfl) (laid_met os))) ?_
  intro W base args ds gs before hval hW _ _ _ hL _ _
  exact contract H enc W base args ds gs before hval hW hL

theorem said : Rows.DigestOrderSaid :=
  OpenClaim.holds_of_cond 5 Tryd.f5 rfl rfl rfl rfl rfl rfl rfl ⟨rfl, rfl, rfl, rfl, rfl⟩ rfl rfl rfl rfl rfl (by kernel_rfl) Tryd.func5 (by kernel_rfl)
    (of_decide_eq_true (by kernel_rfl)) (by unfold Func.isWrapper; first | (rw [if_pos (by decide +kernel)]; kernel_rfl) | (rw [if_neg (by decide +kernel)]; exact ⟨rfl, rfl⟩))
    (fun os started H enc _ F => by rw [OpenClaim.pre_eq_preRow]; exact lifted os started H enc F)

theorem plain (f : FuncId) (fn : Func) (hf : Tryd.pinned.checked.prog.funcNamed "rick/ricklaw02.DigestOrder" = some f) (hfn : Tryd.pinned.checked.prog.funcs[f]? = some fn) :
    false = Tryd.pinned.checked.prog.looks [] ∧ ∀ (j : Nat) t, fn.params[j]? = some t → Tryd.pinned.checked.prog.wantsStandIn t = false := by
  obtain rfl : f = 5 := Option.some.inj ((show Tryd.prog.funcNamed "rick/ricklaw02.DigestOrder" = some 5 by kernel_rfl).symm.trans hf) |>.symm
  obtain rfl : fn = Tryd.f5 := (Option.some.inj (Tryd.func5.symm.trans hfn)).symm
  refine ⟨by kernel_rfl, fun j t ht => ?_⟩
  rw [Tryd.params5] at ht
  have hm := Array.mem_of_getElem? ht
  simp only [List.mem_toArray, List.mem_cons, List.not_mem_nil, or_false] at hm
  rcases hm with rfl | rfl
  · exact (show Tryd.prog.wantsStandIn 24 = false by kernel_rfl)
  · exact (show Tryd.prog.wantsStandIn 24 = false by kernel_rfl)

/-- The statement: its tied card. -/
theorem proved : Rows.DigestOrderCardSaid :=
  Claim7.holds_tied_plain_at .later [] _ _ _ _ said (fun _ h => by cases h) (by kernel_rfl) (fun _ h => by cases h) digestOrder_row_tie rfl ⟨rfl, rfl⟩ (by kernel_rfl) rfl plain (by kernel_rfl)
#print axioms proved
end Go.Proofs.YtmfanfocfmaogaaDoor.digestOrder
