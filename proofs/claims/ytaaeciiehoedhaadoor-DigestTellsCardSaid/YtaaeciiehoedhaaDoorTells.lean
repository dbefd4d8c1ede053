/-
  DigestTells: for all bytes and every two keys, the name of the bytes, the digits of a key, and which of two keys is the lesser, are what the document says; what is handed in stays. Condition: the package's table of words holds what its initialiser lays (the card ties it to the program's text).
-/
import Derived.Test.YtaaeciiehoedhaaDoorDigG
import Derived.Test.YtaaeciiehoedhaaDoorRefB
import Derived.Test.YtaaeciiehoedhaaDoorRefC
import Derived.Test.YtaaeciiehoedhaaDoorHelp
namespace Go.Proofs.YtaaeciiehoedhaaDoor.digestTells
open Go.ChangeShapes Go.WideShapes Go.ChangeAt Go.RowKit

theorem range_of {w : World} {b : Nat} {l : List Value} {t : TypeId} {fr : Nat × Nat} (h : w.heap[b]? = some (.cells l.toArray t fr)) : w.rangeAt b 0 l := by
  intro j v hv
  simp [World.cell?, h, hv]
theorem range_old {w w' : World} {b o : Nat} {l : List Value} (h : w.rangeAt b o l) (hk : Below w.heap.size w w') : w'.rangeAt b o l := by
  intro j v hv
  have hc := h j v hv
  exact (World.cell?_of_block (w := w) (hk.block _ (World.block_lt_of_cell? w _ hc))).trans hc
/-- What the walk holds on to. -/
structure Held (w : World) (v : Value) (b x y : List UInt8) (wy : World) : Prop where
  x : wy.rangeAt w.heap.size 0 (Lib.byteCells x)
  y : wy.rangeAt (w.heap.size + 1) 0 (Lib.byteCells y)
  tab : Tab wy
  arg : Sl wy v (Lib.byteCells b)
  own : OwnCopy wy (w.heap.size + 2) b 71
  below : Below w.heap.size w wy
theorem Held.on {w wy wz : World} {v : Value} {b x y : List UInt8} (h : Held w v b x y wy) (hk : Below wy.heap.size wy wz) : Held w v b x y wz :=
  ⟨range_old h.x hk, range_old h.y hk, h.tab.old hk h.tab.pos, h.arg.old hk, h.own.old hk, below_step h.below hk h.below.size⟩

set_option maxRecDepth 100000 in
set_option maxHeartbeats 4000000 in
theorem walk_at (v : Value) (b x y : List UInt8) (z : Bool) (hz : lessK x y = z) (w : World) (hb : b.length ≤ 3000) (hv : Sl w v (Lib.byteCells b)) (hx : x.length = 32) (hy : y.length = 32) (ht : Tab w) :
    Calls Tryd.prog 3 #[v, keyV x, keyV y] w fun e w' => e = .returned (.bool true) ∧ Below w.heap.size w w' := by
  obtain ⟨ao, cap, rfl⟩ := hv.form
  rw [Lib.byteCells_length] at hv ⊢
  obtain ⟨C, hC⟩ : ∃ C, C = Held w (.slice ao b.length cap) b x y := ⟨_, rfl⟩
  have hCd : ∀ wy, C wy → C wy.drew := by rw [hC]; exact fun wy h => h.on ⟨rfl, rfl, rfl, Nat.le_refl _, fun _ _ => rfl⟩
  have hCo : ∀ wy wz, C wy → Below wy.heap.size wy wz → C wz := by rw [hC]; exact fun _ _ h hk => h.on hk
  have hCa : ∀ wy, C wy → wy.rangeAt w.heap.size 0 (Lib.byteCells x) := by rw [hC]; exact fun _ h => h.x
  have hCb : ∀ wy, C wy → wy.rangeAt (w.heap.size + 1) 0 (Lib.byteCells y) := by rw [hC]; exact fun _ h => h.y
  have hCt : ∀ wy, C wy → Tab wy := by rw [hC]; exact fun _ h => h.tab
  have hCw : ∀ wy, C wy → Below w.heap.size w wy := by rw [hC]; exact fun _ h => h.below
  have hCv : ∀ wy, C wy → Sl wy (.slice ao b.length cap) (Lib.byteCells b) := by rw [hC]; exact fun _ h => h.arg
  have hCk : ∀ wy, C wy → OwnCopy wy (w.heap.size + 2) b 71 := by rw [hC]; exact fun _ h => h.own
  have HCI := hid (show ∀ wy, Below w.heap.size w wy → wy.heap[w.heap.size]? = some (.cells (Lib.byteCells x).toArray 24 (0, 0)) → wy.heap[w.heap.size + 1]? = some (.cells (Lib.byteCells y).toArray 24 (0, 0)) → OwnCopy wy (w.heap.size + 2) b 71 → C wy by
    rw [hC]
    exact fun wy h1 h2 h3 h4 => ⟨range_of h2, range_of h3, ht.old h1 ht.pos, hv.old h1, h4, h1⟩)
  have hia : (Tryd.prog.info? 24).map (·.size) = some (Lib.byteCells x).length := by rw [Lib.byteCells_length, hx, Tryd.sizeKey]
  have hib : (Tryd.prog.info? 24).map (·.size) = some (Lib.byteCells y).length := by rw [Lib.byteCells_length, hy, Tryd.sizeKey]
  obtain ⟨i0, hi0, hi1, hi2, hi3⟩ := info_parts Tryd.info5
  have hl := Sha.sum_length b
  have heq := run_eq_key Tryd.underlying24 Tryd.underlying5 hi0 cellsU8 (Sha.sum b) (Sha.sum b) hl hl
  rw [show (Sha.sum b == Sha.sum b) = true from by simp] at heq
  have HA := hid (show ∀ wy, C wy → Calls Tryd.prog 5 #[] wy fun e w' => e = .returned (.bool true) ∧ C w' from fun wy hy' => (awake_any wy (hCt wy hy')).mono fun e w' ⟨h1, h2⟩ => ⟨h1, hCo _ _ hy' h2⟩)
  have HS1 := hid (show ∀ wy, C wy → Calls Tryd.prog 7 #[.slice (some ⟨w.heap.size + 2, 0, none⟩) b.length (b.length + 3)] wy fun e w' => e = .returned (.agg (Lib.byteCells (Sha.sum b)).toArray) ∧ C w' from fun wy hy' => (Sum_any _ b (by omega) wy (hCk wy hy').sl (hCt wy hy')).mono fun e w' ⟨h1, h2⟩ => ⟨h1, hCo _ _ hy' h2⟩)
  have HS2 := hid (show ∀ wy, C wy → Calls Tryd.prog 8 #[.slice ao b.length cap] wy fun e w' => e = .returned (.agg (Lib.byteCells (Sha.sum b)).toArray) ∧ C w' from fun wy hy' => (RSum_any _ b (by omega) wy (hCv wy hy')).mono fun e w' ⟨h1, h2⟩ => ⟨h1, hCo _ _ hy' h2⟩)
  have HH1 := hid (show ∀ wy, C wy → Calls Tryd.prog 9 #[.agg (Lib.byteCells x).toArray] wy fun e w' => e = .returned (.string ⟨(Sha.hex x).toArray⟩) ∧ C w' from fun wy hy' => (Hex_any x hx wy).mono fun e w' ⟨h1, h2⟩ => ⟨h1, hCo _ _ hy' h2⟩)
  have HH2 := hid (show ∀ wy, C wy → Calls Tryd.prog 10 #[.agg (Lib.byteCells x).toArray] wy fun e w' => e = .returned (.string ⟨(Sha.hex x).toArray⟩) ∧ C w' from fun wy hy' => (RHex_any x hx wy).mono fun e w' ⟨h1, h2⟩ => ⟨h1, hCo _ _ hy' h2⟩)
  have HL1 := hid (show ∀ wy, C wy → Calls Tryd.prog 11 #[.agg (Lib.byteCells x).toArray, .agg (Lib.byteCells y).toArray] wy fun e w' => e = .returned (.bool z) ∧ C w' from fun wy hy' => (Less_any x y hx hy wy).mono fun e w' ⟨h1, h2⟩ => ⟨hz ▸ h1, hCo _ _ hy' h2⟩)
  have HL2 := hid (show ∀ wy, C wy → Calls Tryd.prog 12 #[.agg (Lib.byteCells x).toArray, .agg (Lib.byteCells y).toArray] wy fun e w' => e = .returned (.bool z) ∧ C w' from fun wy hy' => (RLess_any x y hx hy wy).mono fun e w' ⟨h1, h2⟩ => ⟨hz ▸ h1, hCo _ _ hy' h2⟩)
  have HK := hid (show ∀ wy, C wy → Calls Tryd.prog 13 #[.slice (some ⟨w.heap.size + 2, 0, none⟩) b.length (b.length + 3), .slice ao b.length cap, .int .u8 71] wy fun e w' => e = .returned (.bool true) ∧ C w' from fun wy hy' => (Kept_any (w.heap.size + 2) _ b 71 wy (hCk wy hy') (hCv wy hy') (by omega)).mono fun e w' ⟨h1, k, h2⟩ => ⟨h1, h2 ▸ hCo wy _ hy' ⟨rfl, rfl, rfl, Nat.le_refl _, fun _ _ => rfl⟩⟩)
  have HCD := hid hCd
  have HCA := hid hCa
  have HCB := hid hCb
  have HCW := hid hCw
  have HIA := hid hia
  have HIB := hid hib
  have hbel2 : Below w.heap.size w ((w.alloc (.cells (Lib.byteCells x).toArray 24)).alloc (.cells (Lib.byteCells y).toArray 24)) := ((Below.refl _ _).alloc (Nat.le_refl _) _).alloc (by simp) _
  have hg0 := heap_alloc2_old w (.cells (Lib.byteCells x).toArray 24) (.cells (Lib.byteCells y).toArray 24)
  have hg1 := heap_alloc2_new w (.cells (Lib.byteCells x).toArray 24) (.cells (Lib.byteCells y).toArray 24)
  have hO := Own_any (.slice ao b.length cap) b 71 _ (hv.old hbel2) (by omega)
  have hzz : ((w.alloc (.cells (Lib.byteCells x).toArray 24)).alloc (.cells (Lib.byteCells y).toArray 24)).heap.size = w.heap.size + 2 := by simp
  rw [hzz] at hO
  have HO := hid hO
  have HG0 := hid hg0
  have HG1 := hid hg1
  have HB2 := hid hbel2
  have hle : (b.length : Int) ≤ 3000 := by omega
  clear hC hCo hCd hCa hCb hCt hCw hCv hCk hia hib hi0 hi1 hi2 hi3 hv ht hO hg0 hg1 hbel2 hzz hl hb hz
  unfold keyV
  go_enter Tryd.func3, Tryd.ntmps3
  go_wp2_with fail
  refine HO.out.mono ?_
  rintro e w3 ⟨rfl, hown, hb3⟩
  have hC0 : C w3 := HCI.out w3 (HB2.out.trans (hb3.mono (by omega))) ((hb3.block _ (by omega)).trans HG0.out) ((hb3.block _ (by omega)).trans HG1.out) hown
  clear hown hb3
  go_wp2
  refine quiet_region C (by kernel_rfl) (by kernel_rfl) (HCD.out _ hC0) ?_
  clear hC0
  repeat (first
    | go_big_quiet_skip
    | (go_big_quiet_want; first
      | (refine quiet_load 24 _ rfl w.heap.size 0 rfl _ _ HCA.out Tryd.underlying24 rfl HIA.out ?_; simp only [Act.put, List.setIfInBounds_toArray, List.set_cons_zero, List.set_cons_succ]; go_big_quiet_on)
      | (refine quiet_load 24 _ rfl (w.heap.size + 1) 0 rfl _ _ HCB.out Tryd.underlying24 rfl HIB.out ?_; simp only [Act.put, List.setIfInBounds_toArray, List.set_cons_zero, List.set_cons_succ]; go_big_quiet_on)
      | (go_big_quiet_op; first
        | go_big_quiet_on
        | (apply Exists.intro; with_reducible refine ⟨fun _ _ => rfl, ?_⟩; go_big_quiet_on)
        | (apply Exists.intro
           refine ⟨fun wy hy => ?_, ?_⟩
           · (first | with_reducible exact HL1.out wy hy | with_reducible exact HL2.out wy hy | with_reducible exact HA.out wy hy | with_reducible exact HH1.out wy hy | with_reducible exact HH2.out wy hy | with_reducible exact HS1.out wy hy | with_reducible exact HS2.out wy hy | with_reducible exact HK.out wy hy)
           go_big_quiet_on))))
  refine wpQuiet_nil ?_
  intro w5 hC5
  have hbw := HCW.out w5 hC5
  go_wp2
  go_ret
  exact ⟨rfl, hbw⟩

theorem walk (v : Value) (b : List UInt8) (x y : List UInt8) (w : World) (fb : FactBytes w v b) (hx : x.length = 32) (hy : y.length = 32) (ht : Tab w) :
    Calls Tryd.prog 3 #[v, keyV x, keyV y] w fun e w' => e = .returned (.bool true) ∧ Below w.heap.size w w' := by
  obtain ⟨sb, lb⟩ := fb
  by_cases h : b.length ≤ 3000
  · exact walk_at v b x y _ rfl w h sb hx hy ht
  · obtain ⟨ao, cap, rfl⟩ := sb.form
    rw [Lib.byteCells_length] at sb ⊢
    have hgt : (3000 : Int) < (b.length : Int) := by omega
    have hbel2 : Below w.heap.size w ((w.alloc (.cells (Lib.byteCells x).toArray 24)).alloc (.cells (Lib.byteCells y).toArray 24)) := ((Below.refl _ _).alloc (Nat.le_refl _) _).alloc (by simp) _
    have hA := awake_any _ (ht.old hbel2 ht.pos)
    have HA := hid hA
    have HB := hid hbel2
    unfold maxLen at lb
    clear hA hbel2 ht h sb
    unfold keyV
    go_enter Tryd.func3, Tryd.ntmps3
    go_wp2_with fail
    refine HA.out.mono ?_
    rintro e w3 ⟨rfl, hb3⟩
    have hbw := below_step HB.out hb3 HB.out.size
    clear hb3
    go_wp2
    go_ret
    exact ⟨rfl, hbw⟩

theorem own : ownKnob Tryd.prog.godebug = none := by kernel_rfl
theorem laidOut : laidOutB Tryd.prog = true := by kernel_rfl
theorem laid_met (os : Os) : laidMet Tryd.prog Rows.digestTellsRow.laid ((laidWorld os).forCall (fun _ _ => 0) ⟨#[], #[.slice none 0 0, key0, key0], []⟩).memory :=
  laidMet_of_run' 8 (by kernel_rfl) (by kernel_rfl)
theorem reads (os : Os) {H : Type} (enc : TypeId × Value → H) : ∃ places, DataW.whole enc Tryd.prog ((laidWorld os).forCall (fun _ _ => 0) ⟨#[], #[.slice none 0 0, key0, key0], []⟩).memory Tryd.f3.params.toList Rows.digestTellsSpec.vars false (#[.slice none 0 0, key0, key0] : Array Value).toList 8 = some ([.nil, .agg (List.replicate 32 (.lit (.int .u8 0))), .agg (List.replicate 32 (.lit (.int .u8 0)))], [], places) :=
  ⟨[], by kernel_rfl⟩

theorem contract (H : Type) (enc : TypeId × Value → H) (W : World) (base : Nat) (args : Array Value) (ds gs : List (DataW H)) (before : List MemPlace)
    (hval : ∀ (j : Nat) t v, Tryd.f3.params[j]? = some t → args[j]? = some v → Value.okWide Tryd.prog W .any base t v)
    (hW : DataW.Whole enc Tryd.prog Tryd.f3.params.toList Rows.digestTellsSpec.vars false W args.toList ds gs before) (hL : laidMetH Tryd.prog Rows.digestTellsRow.laid W) :
    Calls Tryd.prog 3 args W fun e W' => ∃ v, e = .returned v ∧ Rows.digestTellsSpec.post enc Tryd.prog Tryd.f3 false true false false W args v W' := by
  have hW' := hW
  obtain ⟨p, q, hA0, hV, rfl, hfz, hnd⟩ := hW
  have hA : DataW.TrodAll enc Tryd.prog W 0 (fun _ => true) true Tryd.f3.params.toList args.toList ds p := hA0
  rw [Tryd.params3] at hA hval
  obtain ⟨v0, vs0, d0, ds0, p0, q0, hargs, rfl, rfl, h0, r0⟩ := trodAll_cons hA
  obtain ⟨v1, vs1, d1, ds1, p1, q1, rfl, rfl, rfl, h1, r1⟩ := trodAll_cons r0
  obtain ⟨v2, vs2, d2, ds2, p2, q2, rfl, rfl, rfl, h2, r2⟩ := trodAll_cons r1
  obtain ⟨rfl, rfl, rfl⟩ := trodAll_nil r2
  obtain rfl : args = #[v0, v1, v2] := by cases args; simp_all
  obtain ⟨rfl, rfl⟩ := trodVars_none hV
  have k0 := h0
  have lt0 : ∀ x ∈ p0, x.block < W.heap.size := by obtain ⟨m, hm⟩ := k0; exact DataW.trod_lt m _ _ _ hm
  obtain ⟨x0, l0, c0, rfl⟩ := okWide_slice Tryd.underlying22 (hval 0 22 v0 rfl rfl)
  obtain ⟨a0, w0⟩ : ∃ a, FactBytes W (.slice x0 l0 c0) a := by
    obtain ⟨fuel, hf⟩ := h0
    obtain ⟨v', a, hcs, hs⟩ := open_bytes Tryd.underlying22 Tryd.underlying5 (by kernel_rfl) hf
    obtain rfl : v' = .slice x0 l0 c0 := by simpa [Value.cells] using hcs.symm
    exact ⟨a, hs⟩
  have k1 := h1
  have lt1 : ∀ x ∈ p1, x.block < W.heap.size := by obtain ⟨m, hm⟩ := k1; exact DataW.trod_lt m _ _ _ hm
  obtain ⟨a1, rfl, w1⟩ := open_key Tryd.underlying24 Tryd.underlying5 cellsU8 cellsKey (hval 1 24 v1 rfl rfl) h1
  have k2 := h2
  have lt2 : ∀ x ∈ p2, x.block < W.heap.size := by obtain ⟨m, hm⟩ := k2; exact DataW.trod_lt m _ _ _ hm
  obtain ⟨a2, rfl, w2⟩ := open_key Tryd.underlying24 Tryd.underlying5 cellsU8 cellsKey (hval 2 24 v2 rfl rfl) h2
  clear hA0
  refine (walk (.slice x0 l0 c0) a0 a1 a2 W w0 w1 w2 (Tab_of hL)).mono fun e W' ⟨he, bel⟩ => ?_
  subst he
  exact ⟨_, rfl, _, _, _, [], _, [], hW', trodAll_mk1 (shut_bool Tryd.underlying4 _), (trodAll_cons_mk (Below.trod laidOut (by kernel_rfl) (of_decide_eq_true (by kernel_rfl)) k0 bel lt0) (trodAll_cons_mk (Below.trod laidOut (by kernel_rfl) (of_decide_eq_true (by kernel_rfl)) k1 bel lt1) (trodAll_cons_mk (Below.trod laidOut (by kernel_rfl) (of_decide_eq_true (by kernel_rfl)) k2 bel lt2) trodAll_mk0))), rfl, bel.frame _, fun h => by cases h⟩

set_option maxRecDepth 100000 in
theorem lifted (os : Os) (started : os.Started) (H : Type) (enc : TypeId × Value → H) (F : Stop.Interp) :
    ReturnsInHanded {} Tryd.checked os 3 .any ((OpenSpec.ofChange Rows.digestTellsSpec).preRow enc Tryd.prog Tryd.f3 Rows.digestTellsRow.domain false Rows.digestTellsRow.laid) (((OpenSpec.ofChange Rows.digestTellsSpec).at F).post enc Tryd.prog Tryd.f3 false true false false) := by
  obtain ⟨places, hx⟩ := reads os enc
  refine returnsInHanded_of_row (C := Tryd.checked) (s := OpenSpec.ofChange Rows.digestTellsSpec) own started (by kernel_rfl) Tryd.func3
    (witness_row_at (enc := enc) (C := Tryd.checked) false (laidWorld os) #[.slice none 0 0, key0, key0] rfl (by kernel_rfl) (by kernel_rfl) (by kernel_rfl)
      (OpenSpec.preRow_of_cond 8 hx (by kernel_rfl) (fun k hk => by cases hk) (by kernel_rfl) (laid_met os))) ?_
  intro W base args ds gs before hval hW _ _ _ hL _ _
  exact contract H enc W base args ds gs before hval hW hL

theorem said : Rows.DigestTellsSaid :=
  OpenClaim.holds_of_cond 3 Tryd.f3 rfl rfl rfl rfl rfl rfl rfl ⟨rfl, rfl, rfl, rfl, rfl⟩ rfl rfl rfl rfl rfl (by kernel_rfl) Tryd.func3 (by kernel_rfl)
    (of_decide_eq_true (by kernel_rfl)) (by unfold Func.isWrapper; first | (rw [if_pos (by decide +kernel)]; kernel_rfl) | (rw [if_neg (by decide +kernel)]; exact ⟨rfl, rfl⟩))
    (fun os started H enc _ F => by rw [OpenClaim.pre_eq_preRow]; exact lifted os started H enc F)

theorem plain (f : FuncId) (fn : Func) (hf : Tryd.pinned.checked.prog.funcNamed "rick/ricklaw02.DigestTells" = some f) (hfn : Tryd.pinned.checked.prog.funcs[f]? = some fn) :
    false = Tryd.pinned.checked.prog.looks [] ∧ ∀ (j : Nat) t, fn.params[j]? = some t → Tryd.pinned.checked.prog.wantsStandIn t = false := by
  obtain rfl : f = 3 := Option.some.inj ((show Tryd.prog.funcNamed "rick/ricklaw02.DigestTells" = some 3 by kernel_rfl).symm.trans hf) |>.symm
  obtain rfl : fn = Tryd.f3 := (Option.some.inj (Tryd.func3.symm.trans hfn)).symm
  refine ⟨by kernel_rfl, fun j t ht => ?_⟩
  rw [Tryd.params3] at ht
  have hm := Array.mem_of_getElem? ht
  simp only [List.mem_toArray, List.mem_cons, List.not_mem_nil, or_false] at hm
  rcases hm with rfl | rfl | rfl
  · exact (show Tryd.prog.wantsStandIn 22 = false by kernel_rfl)
  · exact (show Tryd.prog.wantsStandIn 24 = false by kernel_rfl)
  · exact (show Tryd.prog.wantsStandIn 24 = false by kernel_rfl)

/-- The statement: its tied card. -/
theorem proved : Rows.DigestTellsCardSaid :=
  Claim7.holds_tied_plain_at .later [] _ _ _ _ said (fun _ h => by cases h) (by kernel_rfl) (fun _ h => by cases h) digestTells_row_tie rfl ⟨rfl, rfl⟩ (by kernel_rfl) rfl plain (by kernel_rfl)
#print axioms proved
